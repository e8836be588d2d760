import PyProof.Rows.All
import Wide.All
import OpenK.AllK
import Wide.FinOn
import HandS.ForMost
import HandS.Strs
import HandS.DictComp
import HandS.IsInst
import HandS.Style
import HandS.Wide
import HandS.MakeKw
import HandS.MakeKwOnly
import HandS.Evl
import KE.KOpsOwn
import HandS.More
import HandS.ExcInit
import HandS.ExcOwn
import HandS.ExcField
import HandS.ClsMeth
import HandS.TryMany
import HandS.WordsExc
import HandS.ExcIs
import KE.DataMinMax
import KE.KDictSum
import HandS.SortKw
import PyProof.EqKinds
import HandS.OwnEq
import KE.GoesMore
import HandS.Conv
import HandS.TupAny
import HandS.Iter
import HandS.Property
import HandS.Defaults
import PyProof.ListStr
import PyProof.EnumMake
import HandS.Deep
import HandS.HotCalls
import PySem.Challenge.RW_carrykeys_k13_steps_refused
set_option Elab.async false
set_option linter.all false
set_option maxRecDepth 100000
set_option maxHeartbeats 4000000

namespace My
open PySem PySem.Spec PyProof.Rows

def addOnce (l : List Str) (x : Str) : List Str := if l.any (· == x) then l else l ++ [x]
def onces (xs : List Str) : List Str := xs.foldl addOnce []
theorem onces_snoc (xs : List Str) (x : Str) : onces (xs ++ [x]) = addOnce (onces xs) x := by
  unfold onces
  rw [List.foldl_append]
  rfl
theorem addOnce_any (l : List Str) (x k : Str) : (addOnce l x).any (· == k) = (l.any (· == k) || decide (k = x)) := by
  unfold addOnce
  by_cases h : l.any (· == x) = true
  · rw [if_pos h]
    by_cases e : k = x
    · rw [e, h]; simp
    · simp [e]
  · rw [if_neg h, List.any_append]
    by_cases e : k = x
    · rw [e]; simp
    · have hb : (x == k) = false := by
        rw [beq_eq_false_iff_ne]
        exact fun q => e q.symm
      simp [hb, e]
theorem addOnce_len (l : List Str) (x : Str) : (addOnce l x).length = if l.any (· == x) then l.length else l.length + 1 := by
  unfold addOnce; split <;> simp
theorem onces_take (xs : List Str) (i : Nat) (h : i < xs.length) : onces (xs.take (i + 1)) = addOnce (onces (xs.take i)) xs[i] := by
  rw [List.take_succ_eq_append_getElem h, onces_snoc]
theorem onces_le (xs : List Str) : ∀ n, (onces (xs.take n)).length ≤ n
  | 0 => by simp [onces]
  | n + 1 => by
    by_cases h : n < xs.length
    · rw [onces_take xs n h, addOnce_len]
      have := onces_le xs n
      split <;> omega
    · rw [List.take_of_length_le (by omega)]
      have := onces_le xs n
      rw [List.take_of_length_le (by omega)] at this
      omega
theorem onces_nodup : ∀ (xs : List Str), xs.Nodup → onces xs = xs := by
  intro xs h
  have : ∀ n, n ≤ xs.length → onces (xs.take n) = xs.take n := by
    intro n
    induction n with
    | zero => intro _; simp [onces]
    | succ n ih =>
      intro hn
      have hlt : n < xs.length := by omega
      rw [onces_take xs n hlt, ih (by omega), List.take_succ_eq_append_getElem hlt]
      unfold addOnce
      rw [if_neg]
      intro q
      obtain ⟨y, hy, ey⟩ := List.any_eq_true.mp q
      have ey : y = xs[n] := beq_iff_eq.mp ey
      subst ey
      obtain ⟨j, hj, ej⟩ := List.getElem_of_mem hy
      rw [List.getElem_take] at ej
      have hjn : j < n := by
        rw [List.length_take] at hj; omega
      have := (List.getElem_inj h).mp ej
      omega
  have := this xs.length (Nat.le_refl _)
  rwa [List.take_length] at this
theorem onces_lt : ∀ (xs : List Str), ¬ xs.Nodup → (onces xs).length < xs.length := by
  intro xs
  have key : ∀ n, n ≤ xs.length → ((onces (xs.take n)).length = n → (xs.take n).Nodup ∧ onces (xs.take n) = xs.take n) := by
    intro n
    induction n with
    | zero => intro _ _; simp [onces]
    | succ n ih =>
      intro hn he
      have hlt : n < xs.length := by omega
      rw [onces_take xs n hlt, addOnce_len] at he
      have hle := onces_le xs n
      by_cases ha : (onces (xs.take n)).any (· == xs[n]) = true
      · rw [if_pos ha] at he; omega
      · rw [if_neg ha] at he
        obtain ⟨h1, h2⟩ := ih (by omega) (by omega)
        rw [onces_take xs n hlt, List.take_succ_eq_append_getElem hlt]
        unfold addOnce
        rw [if_neg ha, h2]
        refine ⟨L2.nd_snoc h1 fun m => ha ?_, rfl⟩
        rw [h2]
        exact List.any_eq_true.mpr ⟨_, m, beq_self_eq_true _⟩
  intro h
  have h1 := onces_le xs xs.length
  rw [List.take_length] at h1
  by_cases e : (onces xs).length = xs.length
  · have := (key xs.length (Nat.le_refl _) (by rw [List.take_length]; exact e)).1
    rw [List.take_length] at this
    exact absurd this h
  · omega

section
variable {prog : Program} {w : World} {A : Around} {R : Result → Shared → Prop} {It : Addr} {fp wr : List Addr} {G : Array GenState → Array GenState → Prop} {n : Nat} {Pv : Nat → Value → Prop} {Stn : Nat → Shared → Prop}
theorem fills (W : WalksS prog w A.in1 It fp wr G n Pv Stn) (D : Addr) (hD : D ∉ fp) (xs : List Str) (hl : xs.length = n) (hb : n + 1 < scanBound)
    (hv : ∀ i v, Pv i v → ∃ t, v = .str (xs.getD i Str.empty) t) :
    ∀ (k i : Nat) (s0 : Shared), n - i = k → i ≤ n → Stn i s0 →
      s0.heap.SetOf (PySem.strKind prog w) D (fun y => (onces (xs.take i)).any (· == y)) (onces (xs.take i)).length →
      (∀ s9, Moved (D :: wr) G s0 s9 → s9.heap.SetOf (PySem.strKind prog w) D (fun y => (onces xs).any (· == y)) (onces xs).length → R (.ok (.ret .none)) s9) →
      codeAny (model prog w) A (.builtin "set.update.loop" ⟨[.ref D, .ref It], []⟩) R s0 := by
  have hDw : D ∉ wr := fun q => hD (W.sub _ q)
  have hin : ∀ b ∈ wr, b ∈ D :: wr := fun b q => List.mem_cons_of_mem _ q
  intro k
  induction k with
  | zero =>
    intro i s0 hk hi hst hS hR
    obtain rfl : i = n := by omega
    refine codeAny_builtin (R := R) PyProof.Rows.F.entry_set_update_loop ?_
    rw [Around.under_plainId (PyProof.Rows.F.plain_set_update_loop) _]
    show wpAny _ A.in1 (pyNext (.ref It) >>= _) _ _ s0
    refine wpAny_bind (W.done s0 _ _ hst fun s9 hm => ?_)
    show wpAny _ A.in1 (ret Value.none) _ _ s9
    refine wpAny_pure (hR s9 (hm.mono hin) ?_)
    obtain ⟨o, es, ep, t, ho, more⟩ := hS
    rw [List.take_of_length_le (by omega)] at more
    exact ⟨o, es, ep, t, hm.heap D _ hDw ho, more⟩
  | succ k ih =>
    intro i s0 hk hi hst hS hR
    have hlt : i < n := by omega
    have hx : i < xs.length := by omega
    refine codeAny_builtin (R := R) PyProof.Rows.F.entry_set_update_loop ?_
    rw [Around.under_plainId (PyProof.Rows.F.plain_set_update_loop) _]
    show wpAny _ A.in1 (pyNext (.ref It) >>= _) _ _ s0
    refine wpAny_bind (W.item i s0 _ _ hlt hst fun v s9 hP hst9 hm => ?_)
    obtain ⟨t, rfl⟩ := hv i v hP
    have ex : xs.getD i Str.empty = xs[i] := by
      rw [List.getD_eq_getElem?_getD, List.getElem?_eq_getElem hx]
      rfl
    rw [ex]
    have hS9 : s9.heap.SetOf (PySem.strKind prog w) D (fun y => (onces (xs.take i)).any (· == y)) (onces (xs.take i)).length := by
      obtain ⟨o, es, ep, tb, ho, more⟩ := hS
      exact ⟨o, es, ep, tb, hm.heap D _ hDw ho, more⟩
    show wpAny _ A.in1 (holding [Value.str (xs[i]) t] (setAdd D (.str (xs[i]) t)) >>= _) _ _ s9
    refine wpAny_bind (wpAny_holding ?_)
    unfold setAdd
    refine wpAny_holding ?_
    refine wpAny_bind ((PySem.strKind prog w).pyHash (k := xs[i]) (strKind_is _ _ _ _) ?_)
    have room : (onces (xs.take i)).length + 1 < scanBound := by
      have := onces_le xs i
      omega
    refine wpAny_setAddHashed_of (knd := PySem.strKind prog w) (s := { s9 with toks := s9.toks + 1 }) (strKind_is _ _ _ _) rfl hS9 room fun h9 sb hS2 => ?_
    have hSn : h9.SetOf (PySem.strKind prog w) D (fun y => (onces (xs.take (i + 1))).any (· == y)) (onces (xs.take (i + 1))).length :=
      SetOf_congr hS2 (fun y => by rw [onces_take xs i hx, addOnce_any]) (by rw [onces_take xs i hx, addOnce_len])
    refine wpAny_pure ⟨plainId_quiet (PyProof.Rows.F.plain_set_update_loop) _, ih (i + 1) _ (by omega) hlt (W.frame _ s9 _ _ hst9 (Nat.le_succ _) fun b q o e => ?_) hSn fun z hmz hSz => ?_⟩
    · rw [sb.2 b (fun r : b = D => hD (by rw [← r]; exact q))]
      exact e
    · refine hR z (Moved.trans W.gtrans ((hm.mono hin).then_heap (Nat.le_succ _) fun b o q e => ?_) hmz) hSz
      rw [sb.2 b (fun r : b = D => q (by rw [r]; exact List.mem_cons_self))]
      exact e
end
section
variable {prog : Program} {w : World} {A : Around} {E : Value → Shared → Prop} {s : Shared}
abbrev emptySet (led : Bool) : Obj := { cls := .type "set", dict := none, data := .set #[] 0 (.fresh 0 0 led) }
theorem made_set {l : Addr} {its : Array Value} {xs : List Str} {Q : Value → Shared → Prop}
    (calm : A.handled = none) (hl : s.heap.IsList l its) (hi : StrsAre its.toList xs) (hb : its.size + 1 < scanBound) (hn : xs.length = its.size)
    (h : ∀ (h9 : Heap) (tk : Nat), h9.SetOf (PySem.strKind prog w) s.heap.objs.size (fun y => (onces xs).any (· == y)) (onces xs).length →
      (∀ b o, b < s.heap.objs.size → s.heap.get? b = some o → h9.get? b = some o) → Q (.ref s.heap.objs.size) { s with heap := h9, toks := tk }) :
    wpAny (model prog w) A (call (.type "set") [.ref l]) Q E s := by
  obtain ⟨c, tl, hmro⟩ := (PySem.F.called_set).mro
  have made := (PySem.F.called_set).made
  have sub := (PySem.F.called_set).sub
  refine wpAny_call (codeAny_of_tree ?_)
  show wpAny _ _ (callAny (.type "set") _) _ _ _
  refine wpAny_pure ⟨Code.quiet_builtin _ (by decide +kernel), (codeAny_builtin PySem.F.entry_type_call ?_)⟩
  rw [Around.under_plain (weight_type_call_type "set" [.ref l] []) (by rfl)]
  have n1 := (PySem.F.called_set).notType
  have n2 := (PySem.F.called_set).canCreate
  have n3 := PySem.F.typeCall_set_1 (.ref l)
  repeat (any_goals (first | assumption | wp_step))
  refine codeAny_mono (code_set_new_1 (.ref l) (E := E) (Q₁ := fun ob s1 => ∃ led : Bool, ob = .ref s.heap.objs.size ∧ s1 = { s with heap := s.heap.push (emptySet led) }) fun led => ⟨led, rfl, rfl⟩) fun r s1 hr => ?_
  cases r with
  | error e => exact hr
  | ok fl =>
    cases fl with
    | ret ob =>
      obtain ⟨led, rfl, rfl⟩ := hr
      have hS : (s.heap.push (emptySet led)).get? s.heap.objs.size = some (emptySet led) := Heap.get?_push_size _ rfl
      have hT : Shared.TypeIs { s with heap := s.heap.push (emptySet led) } (.ref s.heap.objs.size) "set" := ⟨_, hS, rfl⟩
      have q1 := (PySem.F.called_set).init.lookup
      have q2 := (PySem.F.called_set).init.bind (.ref s.heap.objs.size)
      repeat (any_goals (first | assumption | wp_step))
      refine codeAny_mono (codeAny_call_builtin (R := wants (fun r s2 => r = .none ∧ ∃ h9 tk, s2 = { s with heap := h9, toks := tk } ∧
          h9.SetOf (PySem.strKind prog w) s.heap.objs.size (fun y => (onces xs).any (· == y)) (onces xs).length ∧
          (∀ b o, b < s.heap.objs.size → s.heap.get? b = some o → h9.get? b = some o)) E) (PySem.F.called_set).init.plain (PySem.F.entry_set_init) (check_set_init_1 hT ?_)) fun r2 s2 hr2 => ?_
      · obtain ⟨ol, hol, hcl, nl, hdl⟩ := hl
        obtain ⟨ocls, odict, odata, oslots⟩ := ol
        simp only at hcl hdl
        subst hcl
        subst hdl
        have hol2 : (s.heap.push (emptySet led)).get? l = some { cls := .type "list", dict := odict, data := .seq its nl, slots := oslots } := Heap.get?_push_of_some _ hol
        have u1 := PySem.F.sub_list_set
        have u2 := PySem.F.sub_list_frozenset
        have u3 : (Value.type "list" == Value.type "dict") = false := by decide
        have hl1 : (s.heap.push (emptySet led)).IsList l its := ⟨_, hol2, rfl, nl, rfl⟩
        unfold Builtin.«set.__init__» noKeywords Builtin.Frozenset.updateFrom
        generalize hPI : pyIter = PI
        wp_walk
        subst hPI
        refine wpAny_pyIter_list hl1 ?_
        refine wpAny_bind (wpAny_runValue ?_)
        have hlt : l < s.heap.objs.size := Heap.lt_size hol
        have calm3 : A.in1.in1.in1.handled = none := by simp [calm]
        have ne1 : l ≠ (s.heap.push (emptySet led)).objs.size := by
          rw [Heap.size_push]
          exact Nat.ne_of_lt (Nat.lt_succ_of_lt hlt)
        have ne2 : s.heap.objs.size ∉ [(s.heap.push (emptySet led)).objs.size, l] := by
          rw [Heap.size_push]
          simp only [List.mem_cons, List.mem_singleton, List.not_mem_nil, or_false, not_or]
          exact ⟨Nat.ne_of_lt (Nat.lt_succ_self _), Nat.ne_of_gt hlt⟩
        have hv : ∀ (i : Nat) (v : Value), its[i]? = some v → ∃ t, v = .str (xs.getD i Str.empty) t := fun i v e => SS.strs_at hi i v (by rw [Array.getElem?_toList]; exact e)
        refine fills ((Walks.list calm3 _ l ne1 its).toS) s.heap.objs.size ne2 xs hn hb hv (its.size - 0) 0 _ (by omega) (Nat.zero_le _)
          ⟨⟨_, Heap.get?_push_size _ rfl, rfl, rfl⟩, (hl1.push _)⟩ ?h0 ?h1
        case h0 =>
          have hg : ((s.heap.push (emptySet led)).push { cls := .type "list_iterator", data := .fields #[.ref l, .int 0 0] }).get? s.heap.objs.size = some (emptySet led) := Heap.get?_push_of_some _ hS
          exact SetOf_congr ((setObjOf_fresh (knd := PySem.strKind prog w) led).setOf hg (by unfold scanBound; omega)) (fun _ => rfl) rfl
        case h1 =>
          intro z hm hSz
          obtain ⟨h9, g9, d9, tk9, os9⟩ := z
          obtain rfl : g9 = s.gens := hm.gens
          obtain rfl : d9 = s.drawn := hm.drawn
          obtain rfl : os9 = s.os := hm.os
          show wpAny _ _ _ _ _ _
          refine wpAny_pure ?_
          show wpAny _ _ (ret Value.none) _ _ _
          refine wpAny_pure ⟨rfl, h9, tk9, rfl, hSz, fun b o hb e => ?_⟩
          have m1 : b ≠ s.heap.objs.size := Nat.ne_of_lt hb
          have m2 : b ≠ (s.heap.push (emptySet led)).objs.size := by
            rw [Heap.size_push]
            exact Nat.ne_of_lt (Nat.lt_succ_of_lt hb)
          exact hm.heap b o (by simp only [List.mem_cons, List.mem_singleton, List.not_mem_nil, or_false, not_or]; exact ⟨m1, m2⟩) (Heap.get?_push_of_some _ (Heap.get?_push_of_some _ e))
      · cases r2 with
        | error e => exact hr2
        | ok fl2 =>
          cases fl2 with
          | ret r =>
            obtain ⟨rfl, h9, tk, rfl, hSz, hkz⟩ := hr2
            repeat (any_goals (first | assumption | wp_step))
            exact h _ _ hSz hkz
          | _ => exact hr2.elim
    | _ => exact hr.elim
end
section
open L2
def tLenSetS (K : PySem.W.Frag) (ta : TE) : TE := fun σ H Q => ta σ H fun x H1 => ∃ (l : Addr) (xs : List Str), x = .ref l ∧ SqL K H1 l (xs.map V.str) ∧ xs.length ≤ 1000 ∧ Q (.int ((onces xs).length : Nat)) H1
theorem pe_lenSetS {X : Cx} {a : Expr} {ta : TE} {p p2 q pos : Pos} (hm : X.mg "len" = none) (hm2 : X.mg "set" = none) (ha : PE X a ta) (hg : Gl X "len" := by rfl) (hg2 : Gl X "set" := by rfl) (hc : X.calm = true := by rfl)
    (na : starEach [a] X.env = (false, eval a X.env) :: starEach [] X.env := by rfl) : PE X (.Call (.Name "len" p) [.Call (.Name "set" p2) [a] [] q] [] pos) (tLenSetS X.K ta) := by
  refine ⟨fun pins s σ H Q I h => Call_ (ld_blt I hg hm boot_len ?_)⟩
  refine callWith_builtin1 (args_cons (Call_ (ld_blt I hg2 hm2 boot_set ?_)) rfl) rfl rfl
  refine callWith_type1 (args_cons (thn (ha.run pins s σ H _ I h) fun v s1 ⟨x, H1, I1, r1, q1⟩ => args_nil ?_) na) na rfl
  obtain ⟨l, xs, rfl, hq, hz, q1⟩ := q1
  cases r1
  obtain ⟨its, r, pl, _⟩ := I1.list hq
  have hlen : its.toArray.size = xs.length := by rw [List.size_toArray, ← r.length, List.length_map]
  refine made_set (I1.ok.hd hc) pl.isList (by simpa using strsAre_of r) (by rw [hlen]; unfold scanBound; omega) hlen.symm fun h9 tk hS hk => args_nil ?_
  obtain ⟨o, es, ep, t, ho, hex, hd, _, _, _, hf, hn⟩ := hS
  have I2 : Inv X pins σ H1 { s1 with heap := h9, toks := tk } := I1.kept fun b o e => hk b o (Heap.lt_size e) e
  have hle := onces_le xs xs.length
  rw [List.take_length] at hle
  exact call_len_set ho hex hd hf (by rw [hn]; omega) ⟨.int ((onces xs).length : Nat), H1, I2.tok _, ⟨_, by rw [hn]⟩, q1⟩
end
end My
namespace My
open PySem PySem.Spec PyProof.Rows L2

structure DefAt (K : PySem.W.Frag) (mg : Str → Option Value) (x : Str) (st : Stmt) (ps : List Str) : Prop where
  ex : ∃ f fd, Fun K x x st f fd ∧ mg x = some (.ref f) ∧ Binds K fd ps []
structure MethAt (K : PySem.W.Frag) (C : Addr) (m q : Str) (st : Stmt) (ps : List Str) : Prop where
  ex : ∃ f fd, Fun K m q st f fd ∧ Meth K C m f ∧ Binds K fd ps []
structure ClassAt (K : PySem.W.Frag) (mg : Str → Option Value) (C : Addr) (x : Str) : Prop where
  mg : mg x = some (.ref C)
  cl : Cls K C
  makes : PySem.W.makesIn K C = true
  kp : PySem.W.keepIn K (.ref C) = true
structure CallOk (P : Program) (w : World) (K : PySem.W.Frag) (mg : Str → Option Value) (base : Heap) (k : Nat) (x : Str) (sp : Sp) : Prop where
  ex : ∃ f fd ps, FnOk P w K mg base CX0 k f fd ps sp ∧ mg x = some (.ref f) ∧ PySem.W.keepIn K (.ref f) = true ∧ Binds K fd ps []
structure MethOk (P : Program) (w : World) (K : PySem.W.Frag) (mg : Str → Option Value) (base : Heap) (k : Nat) (C : Addr) (m : Str) (sp : Sp) : Prop where
  ex : ∃ f fd ps, FnOk P w K mg base CX0 k f fd ps sp ∧ Meth K C m f ∧ Binds K fd ps [] ∧ Cls K C
structure MakeOk (P : Program) (w : World) (K : PySem.W.Frag) (mg : Str → Option Value) (base : Heap) (k : Nat) (C : Addr) (x : Str) (sp : Sp) : Prop where
  ex : ∃ f fd ps, FnOk P w K mg base CX0 k f fd ps sp ∧ Mk K C f ∧ Binds K fd ps [] ∧ mg x = some (.ref C)
section
variable {P : Program} {w : World} {K : PySem.W.Frag} {mg : Str → Option Value} {base : Heap} {k : Nat} {x m q : Str} {C : Addr} {sp : Sp} {N ps : List Str} {st : Stmt}
def BodyOk (P : Program) (w : World) (K : PySem.W.Frag) (mg : Str → Option Value) (base : Heap) (k : Nat) (N : List Str) (q : Str) (st : Stmt) (sp : Sp) : Prop :=
  ∀ (f : Addr) (cdv : Value) (A : Around) (outer : List Env) (s : Shared) (H : Hp) (vs : List V) (Q : VK) (E : XK), Room k (A.deeper (envOfC q (defScope st) s.heap.objs.size f cdv)) → sp vs H Q E →
    ∃ t, PSs (cxOf CX0 P w K mg base N q (defScope st) f cdv A outer s H E).nox (defBody st) t ∧ t { nx := fun _ H' => Q .non H', rt := Q } (start N vs) H
theorem DefAt.ok (D : DefAt K mg x st ps) (S : FnScope N ps (defScope st)) (len : ∀ vs H Q E, sp vs H Q E → vs.length = ps.length) (b : BodyOk P w K mg base k N x st sp) : CallOk P w K mg base (k + 1) x sp := by
  obtain ⟨f, fd, F, hm, hb⟩ := D.ex
  exact ⟨f, fd, ps, F.ok S len (fun cdv A outer s H vs Q E hr h => b f cdv A outer s H vs Q E hr h), hm, F.kp, hb⟩
theorem MethAt.ok (D : MethAt K C m q st ps) (c : Cls K C) (S : FnScope N ps (defScope st)) (len : ∀ vs H Q E, sp vs H Q E → vs.length = ps.length) (b : BodyOk P w K mg base k N q st sp) : MethOk P w K mg base (k + 1) C m sp := by
  obtain ⟨f, fd, F, hm, hb⟩ := D.ex
  exact ⟨f, fd, ps, F.ok S len (fun cdv A outer s H vs Q E hr h => b f cdv A outer s H vs Q E hr h), hm, hb, c⟩
theorem MethAt.make (D : MethAt K C "__init__" q st ps) (c : ClassAt K mg C x) (S : FnScope N ps (defScope st)) (len : ∀ vs H Q E, sp vs H Q E → vs.length = ps.length) (b : BodyOk P w K mg base k N q st sp) : MakeOk P w K mg base (k + 1) C x sp := by
  obtain ⟨f, fd, F, hm, hb⟩ := D.ex
  exact ⟨f, fd, ps, F.ok S len (fun cdv A outer s H vs Q E hr h => b f cdv A outer s H vs Q E hr h), ⟨c.makes, hm.at_, hm.fn, c.kp⟩, hb, c.mg⟩
end
structure MakeKOk (P : Program) (w : World) (K : PySem.W.Frag) (mg : Str → Option Value) (base : Heap) (k : Nat) (C : Addr) (x : Str) (n : Nat) (ks : List Str) (gV : List V → List V → List V) (sp : Sp) : Prop where
  ex : ∃ f fd ps g, FnOk P w K mg base CX0 k f fd ps sp ∧ Mk K C f ∧ KBn K fd ps (n + 1) ks g gV ∧ mg x = some (.ref C)
section
variable {P : Program} {w : World} {K : PySem.W.Frag} {mg : Str → Option Value} {base : Heap} {k n : Nat} {x m q : Str} {C : Addr} {sp : Sp} {N ps ks : List Str} {st : Stmt}
theorem MethAt.makeK (D : MethAt K C "__init__" q st ps) (c : ClassAt K mg C x) (S : FnScope N ps (defScope st)) (len : ∀ vs H Q E, sp vs H Q E → vs.length = ps.length) (b : BodyOk P w K mg base k N q st sp)
    (g : {α : Type} → List α → List α → List α) (hrel : ∀ {vs zs : List V} {us ws : List Value}, Vals vs us → Vals zs ws → Vals (g vs zs) (g us ws))
    (h : ∀ (kV doc pm : Value) (an : Option Addr) (cdv ct : Value) (us ws : List Value), us.length = n + 1 → ws.length = ks.length → bindArgs (PySem.W.fnOf "__init__" q (defArgs st) (defBody st) (defScope st) .none kV doc pm an cdv ct) ⟨us, ks.zip ws⟩ = pure (ps.zip (g us ws))) :
    MakeKOk P w K mg base (k + 1) C x n ks (fun vs zs => g vs zs) sp := by
  obtain ⟨f, fd, F, hm, hb⟩ := D.ex
  refine ⟨f, fd, ps, fun us ws => g us ws, F.ok S len (fun cdv A outer s H vs Q E hr h => b f cdv A outer s H vs Q E hr h), ⟨c.makes, hm.at_, hm.fn, c.kp⟩, ?_, c.mg⟩
  obtain ⟨oc, od, kV, doc, pm, an, cdv, ct, osl, rfl, lk, hcd⟩ := F.ex
  exact ⟨fun s us ws _ l1 l2 => .of_eq (h kV doc pm an cdv ct us ws l1 l2), fun r1 r2 => hrel r1 r2⟩
end
section
variable {X : Cx} {k : Nat} {x m : Str} {C : Addr} {sp : Sp} {p pos apos : Pos} {e o : Expr} {es : List Expr} {t tk : TA} {ta : TE} {kws : List Keyword} {ks : List Str} {gV : List V → List V → List V}
theorem pe_makeKC (G : MakeKOk X.prog X.w X.K X.mg X.base k C x 0 ks gV sp) (hr : Room (k + 1) X.A) (hkw : PK X kws tk) (hg : Gl X x := by rfl)
    (hall : (backToKw pos (keywordEach kws X.env)).all (·.1.isSome) = true := by rfl) (hks : (backToKw pos (keywordEach kws X.env)).filterMap (·.1) = ks := by rfl) (hdb : (x == ("__debug__" : Str)) = false := by decide)
    (hpl : ((backTo pos (starEach [] X.env)).any (·.1) || (backToKw pos (keywordEach kws X.env)).any (·.1.isNone)) = false := by rfl) : PE X (.Call (.Name x p) [] kws pos) (tMakeK C 0 ks.length sp gV E0 tNil tk) := by
  obtain ⟨f, fd, ps, g, F, hM, hb, hm⟩ := G.ex
  exact pe_makeK0 hM F hr hg hm hb pass0 hkw hall hks hdb hpl
theorem pe_callC (G : CallOk X.prog X.w X.K X.mg X.base k x sp) (hr : Room k X.A) (ha : PA X (e :: es) t) (hg : Gl X x := by rfl) (hdb : (x == ("__debug__" : Str)) = false := by decide)
    (he : starEach (e :: es) X.env = (false, eval e X.env) :: starEach es X.env := by rfl) (hpl : (backTo pos (starEach es X.env)).any (·.1) = false := by rfl) : PE X (.Call (.Name x p) (e :: es) [] pos) (tCall sp [] E0 t) := by
  obtain ⟨f, fd, ps, F, hm, hk, hb⟩ := G.ex
  exact pe_call F hr hg hm hk hb .nil pass0 ha hdb he hpl
theorem pe_makeC (G : MakeOk X.prog X.w X.K X.mg X.base k C x sp) (hr : Room (k + 1) X.A) (ha : PA X (e :: es) t) (hg : Gl X x := by rfl) (hdb : (x == ("__debug__" : Str)) = false := by decide)
    (he : starEach (e :: es) X.env = (false, eval e X.env) :: starEach es X.env := by rfl) (hpl : (backTo pos (starEach es X.env)).any (·.1) = false := by rfl) : PE X (.Call (.Name x p) (e :: es) [] pos) (tMake C sp [] E0 t) := by
  obtain ⟨f, fd, ps, F, hM, hb, hm⟩ := G.ex
  exact pe_make hM F hr hg hm hb .nil pass0 ha hdb he hpl
theorem pe_methC {pl : Sem Bool} (he : PE X o ta) (G : MethOk X.prog X.w X.K X.mg X.base k C m sp) (hr : Room k X.A) (ha : PA X (e :: es) t)
    (hst : starEach (e :: es) X.env = (false, eval e X.env) :: starEach es X.env := by rfl) (hpl : (backTo pos (starEach es X.env)).any (·.1) = false := by rfl)
    (ht : eval (.Call (.Attribute o m apos) (e :: es) [] pos) X.env = (do
      let ov ← eval o X.env
      standAt apos.atName
      let (f, first) ← holding [ov] (getMethod ov m pl)
      callWith pos f first (backTo pos (starEach (e :: es) X.env)) (backToKw pos (keywordEach [] X.env))) := by rfl) :
    PE X (.Call (.Attribute o m apos) (e :: es) [] pos) (tMeth C m sp [] E0 ta t) := by
  obtain ⟨f, fd, ps, F, hm, hb, c⟩ := G.ex
  exact pe_meth he c hm F hr hb .nil pass0 ha hst hpl ht
theorem pe_methC0 {pl : Sem Bool} (he : PE X o ta) (G : MethOk X.prog X.w X.K X.mg X.base k C m sp) (hr : Room k X.A)
    (ht : eval (.Call (.Attribute o m apos) [] [] pos) X.env = (do
      let ov ← eval o X.env
      standAt apos.atName
      let (f, first) ← holding [ov] (getMethod ov m pl)
      callWith pos f first (backTo pos (starEach [] X.env)) (backToKw pos (keywordEach [] X.env))) := by rfl) :
    PE X (.Call (.Attribute o m apos) [] [] pos) (tMeth C m sp [] E0 ta tNil) := by
  obtain ⟨f, fd, ps, F, hm, hb, c⟩ := G.ex
  exact pe_meth0 he c hm F hr hb .nil pass0 ht
theorem pe_globV {v : V} (h : ∃ u, X.mg x = some u ∧ RelV v u) (hg : Gl X x := by rfl) (hd : (x == ("__debug__" : Str)) = false := by decide) : PE X (.Name x pos) (tC v) := by
  obtain ⟨u, hm, r⟩ := h
  exact pe_glob hg hm r hd
end

section
variable {K : PySem.W.Frag} {h : Heap} {mg : Str → Option Value} {C f : Addr} {x m q : Str} {st : Stmt} {ps : List Str} {oc : Value} {od an : Option Addr} {osl : Array (Option Value)} {kV doc pm cdv ct : Value}
theorem defAt (X : K.In h) (G : h.Ns mainGlobals mg) (b : ∀ (kV doc pm : Value) (an : Option Addr) (cdv ct : Value) (us : List Value), us.length = ps.length → bindArgs (PySem.W.fnOf x x (defArgs st) (defBody st) (defScope st) .none kV doc pm an cdv ct) ⟨us, []⟩ = pure (ps.zip us))
    (a : PySem.W.nsIn K mainGlobals x = some (some (.ref f))) (l : K.lookup f = some ⟨oc, od, .func (PySem.W.fnOf x x (defArgs st) (defBody st) (defScope st) .none kV doc pm an cdv ct), osl⟩)
    (c : PySem.W.codeIn K cdv x = true) (k : PySem.W.keepIn K (.ref f) = true) : DefAt K mg x st ps :=
  ⟨f, _, fun_mk (st := st) l c k, PySem.W.mg_of X G a, (fun_mk (st := st) l c k).binds b⟩
theorem methAt (b : ∀ (kV doc pm : Value) (an : Option Addr) (cdv ct : Value) (us : List Value), us.length = ps.length → bindArgs (PySem.W.fnOf m q (defArgs st) (defBody st) (defScope st) .none kV doc pm an cdv ct) ⟨us, []⟩ = pure (ps.zip us))
    (a : PySem.W.findIn K (.ref C) m = some (some (.ref f))) (i : PySem.W.isFn K (.ref f) = true) (l : K.lookup f = some ⟨oc, od, .func (PySem.W.fnOf m q (defArgs st) (defBody st) (defScope st) .none kV doc pm an cdv ct), osl⟩)
    (c : PySem.W.codeIn K cdv q = true) (k : PySem.W.keepIn K (.ref f) = true) : MethAt K C m q st ps :=
  ⟨f, _, fun_mk (st := st) l c k, ⟨a, i, k⟩, (fun_mk (st := st) l c k).binds b⟩
theorem classAt (X : K.In h) (G : h.Ns mainGlobals mg) (a : PySem.W.nsIn K mainGlobals x = some (some (.ref C))) (pg : PySem.W.plainGet K C Str.empty = true) (hd : PySem.W.hasDictIn K C = true) (po : PySem.W.plainOver K C = true)
    (sa : PySem.W.findIn K (.ref C) "__setattr__" = some (some (.builtin "object.__setattr__"))) (mk : PySem.W.makesIn K C = true) (kc : PySem.W.keepIn K (.ref C) = true) : ClassAt K mg C x :=
  ⟨PySem.W.mg_of X G a, ⟨pg, hd, po, sa⟩, mk, kc⟩
theorem noAttr (a : PySem.W.findIn K (.ref C) x = some none) : NoAttr K C x := a
theorem constAt (X : K.In h) (G : h.Ns mainGlobals mg) {v : V} {u : Value} (a : PySem.W.nsIn K mainGlobals x = some (some u)) (r : RelV v u) : ∃ u, mg x = some u ∧ RelV v u := ⟨u, PySem.W.mg_of X G a, r⟩
end
section
variable {X : Cx} {K : PySem.W.Frag}
def rTupOf (K : PySem.W.Frag) : List V → Hp → VK → Prop := fun xs H Q => ∃ p ys, xs = [.ref p] ∧ ((SqL K H p ys ∧ ∀ l, H l = none → Q (.ref l) (upd H l (.tup ys))) ∨ (SqT K H p ys ∧ Q (.ref p) H))
def rListOf (K : PySem.W.Frag) : List V → Hp → VK → Prop := fun xs H Q => ∃ p ys, xs = [.ref p] ∧ (SqL K H p ys ∨ SqT K H p ys) ∧ ∀ l, H l = none → Q (.ref l) (upd H l (.lst ys))
def rLenOf (K : PySem.W.Frag) : List V → Hp → VK → Prop := fun xs H Q => ∃ p ys, xs = [.ref p] ∧ (SqL K H p ys ∨ SqT K H p ys) ∧ Q (.int ys.length) H
theorem kIxL (h : X.K = K := by rfl) : IxR X (rIxL K) := by subst h; exact ix_list
theorem kIxT (h : X.K = K := by rfl) : IxR X (rIxT K) := by subst h; exact ix_tup
theorem kIn (h : X.K = K := by rfl) : OpR X (compareOp .In) (rIn K false) := by subst h; exact op_in_seq
theorem kNotIn (h : X.K = K := by rfl) : OpR X (compareOp .NotIn) (rIn K true) := by subst h; exact op_notIn_seq
theorem kEqD (hu : X.A.units + 64 < cLine) (h : X.K = K := by rfl) : OpR X (compareOp .Eq) (rEqD K) := by subst h; exact op_eqD hu
theorem kNeD (hu : X.A.units + 64 < cLine) (h : X.K = K := by rfl) : OpR X (compareOp .NotEq) (rNeD K) := by subst h; exact op_neD hu
theorem kLen (h : X.K = K := by rfl) : CallR X (.builtin "len") (rLenOf K) := by subst h; exact call_len_seq
theorem kAll (hc : X.calm = true) (h : X.K = K := by rfl) : CallR X (.builtin "all") (rAll K) := by subst h; exact cr_all hc
theorem kAny (hc : X.calm = true) (h : X.K = K := by rfl) : CallR X (.builtin "any") (rAny K) := by subst h; exact cr_any hc
theorem kSum (hc : X.calm = true) (h : X.K = K := by rfl) : CallR X (.builtin "sum") (rSum K) := by subst h; exact cr_sum hc
theorem kMax (hc : X.calm = true) (h : X.K = K := by rfl) : CallR X (.builtin "max") (rMax K) := by subst h; exact cr_max hc
theorem kIsi (h : X.K = K := by rfl) : CallR X (.builtin "isinstance") (rIsi K) := by subst h; exact call_isi
theorem kTup (h : X.K = K := by rfl) : CallR X (.type "tuple") (rTupOf K) := by subst h; exact call_tuple_of
theorem kList (h : X.K = K := by rfl) : CallR X (.type "list") (rListOf K) := by subst h; exact call_list_of
theorem kFld {e : Expr} {f : Str} {pos : Pos} {ta : TE} (he : PE X e ta) (hb : attributeBase e f X.env (eval e X.env) = eval e X.env) (h : X.K = K := by rfl) : PE X (.Attribute e f pos) (tFld K ta f) := by subst h; exact pe_fld he hb
theorem kPiL {tg l : Expr} {tl : TE} (hl : PE X l tl) (h : X.K = K := by rfl) : PI X tg l (iList K tl) := by subst h; exact pi_list hl
theorem kPiT {tg l : Expr} {tl : TE} (hl : PE X l tl) (h : X.K = K := by rfl) : PI X tg l (iTup K tl) := by subst h; exact pi_tup hl
theorem kPgT {es : List Expr} {k : Nat} {t : TGs} {n : Nat} {pos : Pos} (hc : X.calm = true) (hp : PGs X es t) (h : X.K = K := by rfl)
    (hn : (assignEach es X.env).length = n := by rfl) (hst : (assignEach es X.env).findIdx? (·.1) = none := by rfl) : PG X (.Tuple es k pos) (gTup K n t) := by subst h; exact pg_tup hc hp hn hst
end
def Fr1 (a : Addr) (H H' : Hp) : Prop := ∀ c o, c ≠ a → H c = some o → H' c = some o
theorem Fr1.refl (a : Addr) (H : Hp) : Fr1 a H H := fun _ _ _ h => h
theorem Fr1.trans {a : Addr} {H H1 H2 : Hp} (e : Fr1 a H H1) (f : Fr1 a H1 H2) : Fr1 a H H2 := fun c o n h => f c o n (e c o n h)
theorem Fr1.of {a : Addr} {H H' : Hp} (e : Same H H') : Fr1 a H H' := fun c o _ h => e c o h
theorem Fr1.upd {a p : Addr} {H H' : Hp} {o : HO} (e : Fr1 a H H') (h : H p = none) : Fr1 a H (upd H' p o) := fun c u n hc => by
  rw [upd_ne (ne_of_none hc h)]
  exact e c u n hc
theorem Fr1.at {a : Addr} {H H' : Hp} {o : HO} (e : Fr1 a H H') : Fr1 a H (L2.upd H' a o) := fun c u n hc => by
  rw [upd_ne n]
  exact e c u n hc
theorem Fr1.free {a p : Addr} {H H' : Hp} (e : Fr1 a H H') (n : p ≠ a) (h : H' p = none) : H p = none := by
  cases q : H p with
  | none => rfl
  | some o =>
    rw [e p o n q] at h
    cases h
theorem Same.upd {p : Addr} {H H' : Hp} {o : HO} (e : Same H H') (h : H p = none) : Same H (L2.upd H' p o) := fun c u hc => by
  rw [upd_ne (ne_of_none hc h)]
  exact e c u hc
theorem Same.fr1 {a : Addr} {H H1 H2 : Hp} (e : Same H H1) (f : Fr1 a H1 H2) (h : H a = none) : Same H H2 := fun c o hc => f c o (ne_of_none hc h) (e c o hc)
theorem Same.made' {H H' : Hp} {x dx C : Addr} (nx : H x = none) (nd : H dx = none) (e : Fr1 x (L2.upd (L2.upd H dx (.own x)) x (.ins C dx [])) H') : Same H H' := fun c o hc => by
  refine e c o (ne_of_none hc nx) ?_
  rw [upd_ne (ne_of_none hc nx), upd_ne (ne_of_none hc nd)]
  exact hc
theorem Same.none {p : Addr} {H H' : Hp} (e : Same H H') (h : H' p = none) : H p = none := e.free h
theorem Same.upd' {p : Addr} {H H' : Hp} {o : HO} (e : Same H H') (h : H p = Option.none) : Same H (L2.upd H' p o) := Same.upd e h
def KT (H H' : Hp) : Prop := ∀ a xs, H a = some (.tup xs) → H' a = some (.tup xs)
theorem KT.refl (H : Hp) : KT H H := fun _ _ h => h
theorem KT.trans {H H1 H2 : Hp} (e : KT H H1) (f : KT H1 H2) : KT H H2 := fun a xs h => f a xs (e a xs h)
theorem KT.of {H H' : Hp} (e : Same H H') : KT H H' := fun a xs h => e a _ h
theorem Fr1.kt {a : Addr} {H H' : Hp} {xs : List V} (e : Fr1 a H H') (h : H a = some (.lst xs)) : KT H H' := fun c ys hc => e c _ (ne_of hc h (by intro z; cases z)) hc
theorem KT.upd {p : Addr} {H H' : Hp} {o : HO} (e : KT H H') (h : H p = none) : KT H (L2.upd H' p o) := fun c xs hc => by
  rw [upd_ne (ne_of_none hc h)]
  exact e c xs hc
theorem KT.updL {p : Addr} {H H' : Hp} {ys : List V} {o : HO} (e : KT H H') (h : H' p = some (.lst ys)) : KT H (L2.upd H' p o) := fun c xs hc => by
  have q := e c xs hc
  rw [upd_ne (ne_of q h (by intro z; cases z))]
  exact q

mutual
inductive Td (H : Hp) : V → PyData → Prop
  | non : Td H .non .none
  | bl (b : Bool) : Td H (.bl b) (.bool b)
  | int (i : Int) : Td H (.int i) (.int i)
  | str (x : Str) : Td H (.str x) (.str x)
  | tup {a : Addr} {xs : List V} {ds : List PyData} : H a = some (.tup xs) → TdAll H xs ds → Td H (.ref a) (.tuple ds)
inductive TdAll (H : Hp) : List V → List PyData → Prop
  | nil : TdAll H [] []
  | cons {v : V} {vs : List V} {d : PyData} {ds : List PyData} : Td H v d → TdAll H vs ds → TdAll H (v :: vs) (d :: ds)
end
section
variable {H H' : Hp} {K : PySem.W.Frag}
mutual
theorem Td.mono (e : KT H H') : ∀ {v : V} {d : PyData}, Td H v d → Td H' v d
  | _, _, .non => .non
  | _, _, .bl b => .bl b
  | _, _, .int i => .int i
  | _, _, .str x => .str x
  | _, _, .tup h r => .tup (e _ _ h) (TdAll.mono e r)
theorem TdAll.mono (e : KT H H') : ∀ {vs : List V} {ds : List PyData}, TdAll H vs ds → TdAll H' vs ds
  | _, _, .nil => .nil
  | _, _, .cons h r => .cons (Td.mono e h) (TdAll.mono e r)
end
mutual
theorem Td.dp : ∀ {v : V} {d : PyData}, Td H v d → Dp K H v d
  | _, _, .non => .non
  | _, _, .bl b => .bl b
  | _, _, .int i => .int i
  | _, _, .str x => .str x
  | _, _, .tup h r => .tup (SqT.of h) (TdAll.dp r)
theorem TdAll.dp : ∀ {vs : List V} {ds : List PyData}, TdAll H vs ds → DpAll K H vs ds
  | _, _, .nil => .nil
  | _, _, .cons h r => .cons (Td.dp h) (TdAll.dp r)
end
theorem TdAll.length : ∀ {vs : List V} {ds : List PyData}, TdAll H vs ds → vs.length = ds.length
  | _, _, .nil => rfl
  | _, _, .cons _ r => by rw [List.length_cons, List.length_cons, TdAll.length r]
theorem TdAll.get : ∀ {vs : List V} {ds : List PyData} {i : Nat} {v : V}, TdAll H vs ds → vs[i]? = some v → ∃ d, ds[i]? = some d ∧ Td H v d
  | _, _, i, _, .nil, h => by simp at h
  | _, _, 0, _, .cons h _, e => ⟨_, rfl, by
      have e : _ = _ := Option.some.inj e
      rw [← e]
      exact h⟩
  | _, _, i + 1, _, .cons _ r, e => TdAll.get (i := i) r e
theorem TdAll.get' : ∀ {vs : List V} {ds : List PyData} {i : Nat} {d : PyData}, TdAll H vs ds → ds[i]? = some d → ∃ v, vs[i]? = some v ∧ Td H v d
  | _, _, i, _, .nil, h => by simp at h
  | _, _, 0, _, .cons h _, e => ⟨_, rfl, by
      have e : _ = _ := Option.some.inj e
      rw [← e]
      exact h⟩
  | _, _, i + 1, _, .cons _ r, e => TdAll.get' (i := i) r e
theorem TdAll.append : ∀ {vs us : List V} {ds es : List PyData}, TdAll H vs ds → TdAll H us es → TdAll H (vs ++ us) (ds ++ es)
  | _, _, _, _, .nil, r => r
  | _, _, _, _, .cons h t, r => .cons h (TdAll.append t r)
theorem TdAll.snoc {vs : List V} {ds : List PyData} {v : V} {d : PyData} (r : TdAll H vs ds) (h : Td H v d) : TdAll H (vs ++ [v]) (ds ++ [d]) := r.append (.cons h .nil)
theorem TdAll.strs : ∀ (ws : List Str), TdAll H (ws.map V.str) (ws.map PyData.str)
  | [] => .nil
  | w :: ws => .cons (.str w) (TdAll.strs ws)
theorem Td.str_inv {v : V} {x : Str} (h : Td H v (.str x)) : v = .str x := by cases h; rfl
theorem Td.bl_inv {v : V} {b : Bool} (h : Td H v (.bool b)) : v = .bl b := by cases h; rfl
theorem Td.int_inv {v : V} {i : Int} (h : Td H v (.int i)) : v = .int i := by cases h; rfl
theorem Td.tup_inv {v : V} {ds : List PyData} (h : Td H v (.tuple ds)) : ∃ a xs, v = .ref a ∧ H a = some (.tup xs) ∧ TdAll H xs ds := by
  cases h with
  | tup h r => exact ⟨_, _, rfl, h, r⟩
theorem TdAll.strs_inv : ∀ {vs : List V} {ws : List Str}, TdAll H vs (ws.map PyData.str) → vs = ws.map V.str
  | _, [], h => by cases h; rfl
  | _, w :: ws, h => by
    cases h with
    | cons h r => rw [List.map_cons, ← TdAll.strs_inv r, Td.str_inv h]
theorem Td.kt_same {v : V} {d : PyData} (e : Same H H') (h : Td H v d) : Td H' v d := h.mono (KT.of e)
end

def StAt (H : Hp) (a : Addr) (n : Nat) : Prop := ∃ x y k : Int, H a = some (.lst [.int x, .int y, .int k]) ∧ 0 ≤ k ∧ k + n ≤ 1000000
theorem StAt.mono {H : Hp} {a : Addr} {n m : Nat} (h : StAt H a m) (l : n ≤ m) : StAt H a n := by
  obtain ⟨x, y, k, h1, h2, h3⟩ := h
  exact ⟨x, y, k, h1, h2, by omega⟩
theorem StAt.lst {H : Hp} {a : Addr} {n : Nat} (h : StAt H a n) : ∃ xs, H a = some (.lst xs) := by
  obtain ⟨x, y, k, h1, _⟩ := h
  exact ⟨_, h1⟩
theorem StAt.kt {H H' : Hp} {a : Addr} {n : Nat} (h : StAt H a n) (e : Fr1 a H H') : KT H H' := by
  obtain ⟨xs, hx⟩ := h.lst
  exact e.kt hx
theorem StAt.same {H H' : Hp} {a : Addr} {n : Nat} (h : StAt H a n) (e : Same H H') : StAt H' a n := by
  obtain ⟨x, y, k, h1, h2, h3⟩ := h
  exact ⟨x, y, k, e _ _ h1, h2, h3⟩
theorem StAt.fr {H H' : Hp} {a b : Addr} {n : Nat} (h : StAt H a n) (e : Fr1 b H H') (ne : a ≠ b) : StAt H' a n := by
  obtain ⟨x, y, k, h1, h2, h3⟩ := h
  exact ⟨x, y, k, e _ _ ne h1, h2, h3⟩
theorem StAt.upd {H : Hp} {a p : Addr} {n : Nat} {o : HO} (h : StAt H a n) (ne : a ≠ p) : StAt (upd H p o) a n := by
  obtain ⟨x, y, k, h1, h2, h3⟩ := h
  exact ⟨x, y, k, by rw [upd_ne ne]; exact h1, h2, h3⟩
theorem StAt.ne {H : Hp} {a p : Addr} {n : Nat} (h : StAt H a n) (e : H p = none) : a ≠ p := by
  obtain ⟨x, y, k, h1, _⟩ := h
  exact ne_of_none h1 e

structure Nm (w : Str) : Prop where
  lo : 1 ≤ w.length
  hi : w.length ≤ 8
  az : ∀ c ∈ w.cps.toList, 97 ≤ c ∧ c ≤ 122
def abc : Str := "abcdefghijklmnopqrstuvwxyz"
theorem abc_list : abc.cps.toList = (List.range 26).map (97 + ·) := by decide +kernel
theorem abc_len : abc.length = 26 := by decide +kernel
theorem abc_mem (c : Nat) : c ∈ abc.cps.toList ↔ 97 ≤ c ∧ c ≤ 122 := by
  rw [abc_list, List.mem_map]
  constructor
  · rintro ⟨i, hi, rfl⟩
    rw [List.mem_range] at hi
    omega
  · rintro ⟨h1, h2⟩
    exact ⟨c - 97, List.mem_range.mpr (by omega), by omega⟩
theorem abc_at (i : Nat) (h : i < 26) : abc.cps.toList[i]? = some (97 + i) := by
  rw [abc_list, List.getElem?_map, List.getElem?_range h]
  rfl
theorem Nm.sign {c : Nat} (h : 97 ≤ c ∧ c ≤ 122) : Nm ⟨#[c]⟩ := by
  refine ⟨(by show 1 ≤ 1; decide), (by show 1 ≤ 8; decide), fun d hd => ?_⟩
  have : d = c := by simpa using hd
  rw [this]
  exact h
theorem sizeL {n : Nat} (h : n ≤ 100000) : n ≤ sizeLine := Nat.le_trans h (by decide)
theorem sizeLt {n : Nat} (h : n < 100000) : n < sizeLine := Nat.lt_of_lt_of_le h (by decide)
section
variable {X : Cx}
theorem ps_setDc {i : Nat} {y : Str} {py : Pos} {kx vx tg iter : Expr} {ifs : List Expr} {scope : Scope} {own : List (Str × Nat)} {pos spos : Pos} {wi : TI} {g : TG} {tt : TT} {tk tv : TE} (hc : X.calm = true) (hN : X.N.Nodup) (hy : X.N[i]? = some y) (hyl : X.env.scope.names.lookup y = some .local)
    (hsw : swapsWith (.DictComp kx vx [⟨tg, iter, ifs, 0⟩] scope pos) (some (.Name y py)) spos.line X.env = pure true) (hi : PI X tg iter wi) (ok : BlkOk X.N X.env.scope scope own)
    (hg : ∀ (s : Shared) (H : Hp) (C : Addr) (cl : List (Str × Addr)) (fp : List Addr), PG (X.blk s H scope (compEnvC scope cl C X.env) fp) tg g)
    (ht : ∀ (s : Shared) (H : Hp) (C : Addr) (cl : List (Str × Addr)) (fp : List Addr), PTs (X.blk s H scope (compEnvC scope cl C X.env) fp) ifs tt)
    (hk : ∀ (s : Shared) (H : Hp) (C : Addr) (cl : List (Str × Addr)) (fp : List Addr), PE (X.blk s H scope (compEnvC scope cl C X.env) fp) kx tk)
    (he : ∀ (s : Shared) (H : Hp) (C : Addr) (cl : List (Str × Addr)) (fp : List Addr), PE (X.blk s H scope (compEnvC scope cl C X.env) fp) vx tv) (hs : ∀ x, foldedSetIterable iter X.env x = pure x := by intro _; rfl) :
    PS X (.Assign [.Name y py] (.DictComp kx vx [⟨tg, iter, ifs, 0⟩] scope pos) spos) (tAsg (tDc wi g tt tk tv (own.map (·.2))) (gName i)) := by
  refine ⟨fun pins s0 σ H0 Dn I0 h0 => ?_⟩
  rw [(exec_Assign_Name_used _ _ _ _ hsw :)]; refine wpAny_bind (wpAny_standAt <| wpAny_bind ?_)
  show wpAny _ X.A (do let _ ← comprehension (.DictComp kx vx [⟨tg, iter, ifs, 0⟩] scope pos) scope X.env (firstIterPos [⟨tg, iter, ifs, 0⟩] pos) newDict false (eval iter X.env) (some (assign (.Name y py) X.env))) _ _ s0
  have h0 : tDc wi g tt tk tv (own.map (·.2)) σ H0 (fun x H1 => gName i x σ H1 Dn.nx) := h0
  refine wpAny_bind (thn (dc_core (Qf := fun _ s9 => SP X pins Dn .next s9) hc hN I0 hi ok hg ht hk he hs h0 fun L C s9 m H9 I9 q hn ff => ?_) fun _ s9 hq => wpAny_pure (wpAny_pure hq))
  show wpAny _ _ (assign (.Name y py) X.env (.ref L)) _ _ s9
  refine wpAny_assign_Name (store_ok2 (v := V.ref L) I9 hN hy (.inl hyl) rfl (fun s8 I8 ⟨a, sb, ha⟩ => ?_) (.inr hyl)); obtain ⟨z0, z1, z2, z3, z4, z5⟩ := ff
  have ca : C ≠ a := ha.elim (fun z => by rw [z]; exact z1) fun z e => z4 y a z e.symm
  refine ⟨m, hn.sameBut sb ca, fun h8 sb8 => ⟨_, H9, I8.turned (t' := s8.toks) (fun b o hb e => (sb8.2 b hb).trans e) z0 z1 z3 z4 z5, q⟩⟩
theorem swd_true {kx vx : Expr} {gs : List Comprehension} {scope : Scope} {pos py : Pos} {y : Str} {l : Nat} {env : Env} (hk : env.scope.kind = .function) (hy : env.scope.names.lookup y = some .local) (hl : (py.line == pos.line) = true)
    (ha : (scope.names.any fun (n, k) => n == y && (k == .local || k == .cell)) = false) : swapsWith (.DictComp kx vx gs scope pos) (some (.Name y py)) l env = pure true := by
  have kl : env.kindOf y = some .local := hy
  have kb : env.blockKind = .function := by unfold Env.blockKind; rw [hk] <;> rfl
  unfold swapsWith; simp only [kb, kl, ha, Expr.pos, hl] <;> rfl
end
end My
namespace My
open PySem L2
theorem tYes_if {σ : L2.St} {H : Hp} {A B : Hp → Prop} (h : A H) : tYes σ H (fun b H3 => if b = true then A H3 else B H3) := by
  show (if true = true then A H else B H)
  rw [if_pos rfl]
  exact h
abbrev cd (w : Str) : List Nat := w.cps.toList
theorem cd_len (w : Str) : w.length = (cd w).length := by
  show w.cps.size = w.cps.toList.length
  rw [Array.length_toList]
theorem cd_ext {v w : Str} (h : cd v = cd w) : v = w := by
  cases v
  cases w
  congr
  exact Array.ext' h
theorem cd_app (v w : Str) : cd (v ++ w) = cd v ++ cd w := by
  show (v.cps ++ w.cps).toList = _
  rw [Array.toList_append]
theorem cd_sign (c : Nat) : cd ⟨#[c]⟩ = [c] := rfl
theorem Nm.of {w : Str} {cs : List Nat} (e : cd w = cs) (h1 : 1 ≤ cs.length) (h8 : cs.length ≤ 8) (az : ∀ c ∈ cs, 97 ≤ c ∧ c ≤ 122) : Nm w := by
  subst e
  exact ⟨by rw [cd_len]; exact h1, by rw [cd_len]; exact h8, az⟩
theorem Nm.l1 {w : Str} (h : Nm w) : 1 ≤ (cd w).length := by
  rw [← cd_len]
  exact h.lo
theorem Nm.l8 {w : Str} (h : Nm w) : (cd w).length ≤ 8 := by
  rw [← cd_len]
  exact h.hi
theorem joinL_signs : ∀ cs : List Nat, TL.joinL [] (cs.map fun c => [c]) = cs
  | [] => rfl
  | [c] => rfl
  | c :: d :: r => by
    show [c] ++ ([] ++ TL.joinL [] ((d :: r).map fun c => [c])) = _
    rw [joinL_signs (d :: r)]
    rfl
theorem cd_join (cs : List Nat) : cd (Txt.join (Str.ofString "") (cs.map fun c => (⟨#[c]⟩ : Str))) = cs := by
  rw [TL.join_eq]
  have h := TL.tl_join (Str.ofString "") (cs.map fun c => (⟨#[c]⟩ : Str))
  have e : (cs.map fun c => (⟨#[c]⟩ : Str)).map TL.tl = cs.map fun c => [c] := by
    rw [List.map_map]
    rfl
  rw [e] at h
  have h2 : TL.tl (Str.ofString "") = [] := by decide +kernel
  rw [h2, joinL_signs] at h
  exact h
theorem cut_to (z : Str) (i : Nat) (h : i ≤ z.length) : cd (cutS z none (some (i : Int))) = (cd z).take i := by
  show ((z.cps.toList.drop (HT.sIx z.length 0 none)).take (HT.sIx z.length z.length (some (i : Int)) - HT.sIx z.length 0 none)).toArray.toList = _
  rw [HT.sIx_none, HT.sIx_nat, List.toList_toArray, List.drop_zero, Nat.min_eq_left h]
  rfl
theorem cut_from (z : Str) (i : Nat) : cd (cutS z (some (i : Int)) none) = (cd z).drop i := by
  show ((z.cps.toList.drop (HT.sIx z.length 0 (some (i : Int)))).take (HT.sIx z.length z.length none - HT.sIx z.length 0 (some (i : Int)))).toArray.toList = _
  rw [HT.sIx_none, HT.sIx_nat, List.toList_toArray]
  have e : z.length = z.cps.toList.length := cd_len z
  rcases Nat.le_total i z.length with l | l
  · rw [Nat.min_eq_left l, List.take_of_length_le]
    rw [List.length_drop, ← e]
    exact Nat.le_refl _
  · rw [Nat.min_eq_right l, List.drop_eq_nil_of_le (by rw [← e]; exact Nat.le_refl _), List.take_nil]
    exact (List.drop_eq_nil_of_le (by rw [← e]; exact l)).symm
theorem Nm.bent {w v : Str} {i c : Nat} (h : Nm w) (hi : i < (cd w).length) (hc : 97 ≤ c ∧ c ≤ 122) (e : cd v = (cd w).take i ++ [c] ++ (cd w).drop (i + 1)) : Nm v := by
  have l8 := h.l8
  refine Nm.of e ?_ ?_ fun d hd => ?_
  · simp only [List.length_append, List.length_take, List.length_drop, List.length_singleton]
    omega
  · simp only [List.length_append, List.length_take, List.length_drop, List.length_singleton]
    omega
  · rcases List.mem_append.mp hd with m | m
    · rcases List.mem_append.mp m with m | m
      · exact h.az d (List.mem_of_mem_take m)
      · rw [List.mem_singleton.mp m]
        exact hc
    · exact h.az d (List.mem_of_mem_drop m)
theorem Nm.more {w v : Str} {c : Nat} (h : Nm w) (l : (cd w).length < 8) (hc : 97 ≤ c ∧ c ≤ 122) (e : cd v = cd w ++ [c]) : Nm v := by
  refine Nm.of e ?_ ?_ fun d hd => ?_
  · simp only [List.length_append, List.length_singleton]
    omega
  · simp only [List.length_append, List.length_singleton]
    omega
  · rcases List.mem_append.mp hd with m | m
    · exact h.az d m
    · rw [List.mem_singleton.mp m]
      exact hc
theorem Nm.less {w v : Str} {i : Nat} (h : Nm w) (hi : i < (cd w).length) (l : 1 < (cd w).length) (e : cd v = (cd w).take i ++ (cd w).drop (i + 1)) : Nm v := by
  have l8 := h.l8
  refine Nm.of e ?_ ?_ fun d hd => ?_
  · simp only [List.length_append, List.length_take, List.length_drop]
    omega
  · simp only [List.length_append, List.length_take, List.length_drop]
    omega
  · rcases List.mem_append.mp hd with m | m
    · exact h.az d (List.mem_of_mem_take m)
    · exact h.az d (List.mem_of_mem_drop m)
theorem pigeon : ∀ (l m : List Str), l.Nodup → (∀ x ∈ l, x ∈ m) → l.length ≤ m.length
  | [], _, _, _ => Nat.zero_le _
  | x :: r, m, h, s => by
    obtain ⟨h1, h2⟩ := List.nodup_cons.mp h
    have hm := s x List.mem_cons_self
    have := pigeon r (m.erase x) h2 fun y hy => (List.mem_erase_of_ne (fun e => h1 (by rw [← e]; exact hy))).mpr (s y (List.mem_cons_of_mem _ hy))
    have e := List.length_erase_of_mem hm
    have p := List.length_pos_of_mem hm
    rw [List.length_cons]
    omega
section
variable {g : TG} {tt : TT} {te : TE} {vs : List Nat} {σ : L2.St} {H1 : Hp} {D : Addr} {Qd : Hp → Prop} {x : Str}
theorem lc_str (Pv : Nat → Hp → Prop) (h0 : Pv 0 (upd H1 D (.lst [])))
    (hs : ∀ i c Hi, x.cps[i]? = some c → Pv i Hi → g (.str ⟨#[c]⟩) (wipe σ vs) Hi fun σ2 H2 => wipe σ2 vs = wipe σ vs ∧ tt σ2 H2 fun b H3 =>
      if b = true then te σ2 H3 fun y H4 => ∃ acc, H4 D = some (.lst acc) ∧ acc.length < sizeLine ∧ Pv (i + 1) (upd H4 D (.lst (acc ++ [y]))) else Pv (i + 1) H3)
    (hd : ∀ Hi, Pv x.cps.size Hi → Qd Hi) :
    ∃ W : Nat → Nat → Hp → Prop, (∃ m, W 0 m (upd H1 D (.lst []))) ∧ ∀ i m Hi, W i m Hi →
      ((Its x).stop i Hi ∧ Qd Hi) ∨ ((Its x).go i Hi ∧ ∃ Nx : Hp → Prop, (∀ H', Nx H' → ∃ m', m' < m ∧ W (i + 1) m' H') ∧ ∀ v H', (Its x).yld i Hi v H' → g v (wipe σ vs) H' fun σ2 H2 => wipe σ2 vs = wipe σ vs ∧ tt σ2 H2 fun b H3 =>
        if b = true then te σ2 H3 fun y H4 => ∃ acc, H4 D = some (.lst acc) ∧ acc.length < sizeLine ∧ Nx (upd H4 D (.lst (acc ++ [y]))) else Nx H3) := by
  refine ⟨fun i m Hi => m = x.cps.size - i ∧ i ≤ x.cps.size ∧ Pv i Hi, ⟨_, rfl, Nat.zero_le _, h0⟩, ?_⟩
  rintro i m Hi ⟨em, hi, p⟩
  by_cases l : i < x.cps.size
  · refine Or.inr ⟨l, Pv (i + 1), fun H' p' => ⟨_, by omega, rfl, l, p'⟩, ?_⟩
    rintro v H' ⟨eh, c, hc, rfl⟩
    rw [eh]
    exact hs i c Hi hc p
  · obtain rfl : i = x.cps.size := by omega
    exact Or.inl ⟨Nat.le_refl _, hd Hi p⟩
end
theorem free_letter (ws : List Str) (h : ws.length < 26) : ∃ j, j < 26 ∧ (⟨#[97 + j]⟩ : Str) ∉ ws := by
  by_cases g : ∀ j, j < 26 → (⟨#[97 + j]⟩ : Str) ∈ ws
  · exfalso
    have nd : ((List.range 26).map fun j => (⟨#[97 + j]⟩ : Str)).Nodup := by decide +kernel
    have sub : ∀ x ∈ ((List.range 26).map fun j => (⟨#[97 + j]⟩ : Str)), x ∈ ws := by
      intro x hx
      obtain ⟨j, hj, rfl⟩ := List.mem_map.mp hx
      exact g j (List.mem_range.mp hj)
    have l := pigeon _ _ nd sub
    rw [List.length_map, List.length_range] at l
    omega
  · simp only [Classical.not_forall] at g
    obtain ⟨j, hj, hn⟩ := g
    exact ⟨j, hj, hn⟩
theorem flat_strs (ws : List Str) : (ws.map V.str).all flatV = true := by
  induction ws with
  | nil => rfl
  | cons w r ih =>
    rw [List.map_cons, List.all_cons, ih]
    rfl
theorem inV_strs (x : Str) : ∀ ws : List Str, inV (.str x) (ws.map V.str) = decide (x ∈ ws)
  | [] => by
    rw [List.map_nil]
    simp [inV]
  | w :: r => by
    have ih := inV_strs x r
    unfold inV at ih ⊢
    rw [List.map_cons, List.any_cons, ih]
    by_cases e : w = x
    · subst e
      simp [eqV]
    · have e' : ¬ x = w := fun q => e q.symm
      simp [eqV, e, e']
end My
namespace My
open PySem L2
def Fine (n : Nat) (d : PyData) : Prop := d.canLay0 = true ∧ d.depth ≤ n
theorem Fine.sh {n : Nat} {d : PyData} (h : Fine n d) (l : n ≤ 64) : SeqAt.shaped d = true := by
  show (d.canLay0 && decide (d.depth ≤ 64)) = true
  rw [h.1, decide_eq_true (Nat.le_trans h.2 l)]
  rfl
theorem Fine.self {n : Nat} {d : PyData} (h : Fine n d) : PyData.eqv d d = true := PySem.SeqAt.eqv_refl d h.1
theorem Fine.up {n m : Nat} {d : PyData} (h : Fine n d) (l : n ≤ m) : Fine m d := ⟨h.1, Nat.le_trans h.2 l⟩
theorem canAll : ∀ {ds : List PyData}, (∀ d ∈ ds, d.canLay0 = true) → PyData.canLayAll0 ds = true
  | [], _ => by simp only [PyData.canLayAll0]
  | d :: r, h => by
    simp only [PyData.canLayAll0]
    rw [h d List.mem_cons_self, canAll fun x hx => h x (List.mem_cons_of_mem _ hx)]
    rfl
theorem depAll : ∀ {ds : List PyData} {n : Nat}, (∀ d ∈ ds, d.depth ≤ n) → PyData.depthAll ds ≤ n
  | [], n, _ => by simp [PyData.depthAll]
  | d :: r, n, h => by
    simp only [PyData.depthAll]
    have h1 := h d List.mem_cons_self
    have h2 := depAll (ds := r) fun x hx => h x (List.mem_cons_of_mem _ hx)
    omega
theorem Fine.tup {n : Nat} {ds : List PyData} (h : ∀ d ∈ ds, Fine n d) : Fine (n + 1) (.tuple ds) := by
  refine ⟨?_, ?_⟩
  · simp only [PyData.canLay0]
    exact canAll fun d hd => (h d hd).1
  · simp only [PyData.depth]
    have := depAll fun d hd => (h d hd).2
    omega
theorem Fine.lst {n : Nat} {ds : List PyData} (h : ∀ d ∈ ds, Fine n d) : Fine (n + 1) (.list ds) := by
  refine ⟨?_, ?_⟩
  · simp only [PyData.canLay0]
    exact canAll fun d hd => (h d hd).1
  · simp only [PyData.depth]
    have := depAll fun d hd => (h d hd).2
    omega
theorem Fine.int (i : Int) : Fine 1 (.int i) := ⟨by simp only [PyData.canLay0], by simp only [PyData.depth]; omega⟩
theorem Fine.bool (b : Bool) : Fine 1 (.bool b) := ⟨by simp only [PyData.canLay0], by simp only [PyData.depth]; omega⟩
theorem Fine.none : Fine 1 .none := ⟨by simp only [PyData.canLay0], by simp only [PyData.depth]; omega⟩
theorem Fine.str {x : Str} (h : ∀ c ∈ cd x, c < 0x110000) : Fine 1 (.str x) := by
  refine ⟨?_, by simp only [PyData.depth]; omega⟩
  simp only [PyData.canLay0]
  show x.cps.all (· < 0x110000) = true
  rw [← Array.all_toList, List.all_eq_true]
  intro c hc
  exact decide_eq_true (h c hc)
theorem Nm.fine {x : Str} (h : Nm x) : Fine 1 (.str x) := Fine.str fun c hc => by
  have := h.az c hc
  omega
theorem fine_strs {ws : List Str} (h : ∀ w ∈ ws, Nm w) : ∀ d ∈ ws.map PyData.str, Fine 1 d := by
  intro d hd
  obtain ⟨w, hw, rfl⟩ := List.mem_map.mp hd
  exact (h w hw).fine
theorem eqv_lists_nil (ds : List PyData) : PyData.eqv (.list ds) (.list []) = ds.isEmpty := by
  cases ds <;> simp [PyData.eqv, PyData.eqvAll]
theorem eqv_tups_nil (ds : List PyData) : PyData.eqv (.tuple ds) (.tuple []) = ds.isEmpty := by
  cases ds <;> simp [PyData.eqv, PyData.eqvAll]

abbrev Ref := Str × Str
abbrev Ent := Str × Bool × List Ref
abbrev Plan := List Ent
def refD (r : Ref) : PyData := .tuple [.str r.1, .str r.2]
def refsD (rs : List Ref) : PyData := .tuple (rs.map refD)
def entD (e : Ent) : PyData := .tuple [.str e.1, .bool e.2.1, refsD e.2.2]
def planD (p : Plan) : PyData := .tuple (p.map entD)
structure GoodRefs (names : List Str) (rs : List Ref) : Prop where
  len : rs.length ≤ 3
  nm : ∀ r ∈ rs, Nm r.1
  to : ∀ r ∈ rs, r.2 ∈ names
  nd : (rs.map (·.1)).Nodup
structure Good (p : Plan) : Prop where
  lo : 1 ≤ p.length
  hi : p.length ≤ 5
  nm : ∀ e ∈ p, Nm e.1
  nd : (p.map (·.1)).Nodup
  refs : ∀ e ∈ p, GoodRefs (p.map (·.1)) e.2.2
theorem Good.names {p : Plan} (g : Good p) : ∀ w ∈ p.map (·.1), Nm w := by
  intro w hw
  obtain ⟨e, he, rfl⟩ := List.mem_map.mp hw
  exact g.nm e he
theorem Good.toNm {p : Plan} (g : Good p) {e : Ent} (he : e ∈ p) {r : Ref} (hr : r ∈ e.2.2) : Nm r.2 := g.names _ ((g.refs e he).to r hr)
theorem refD_fine {r : Ref} (h1 : Nm r.1) (h2 : Nm r.2) : Fine 2 (refD r) := Fine.tup (n := 1) fun d hd => by
  rcases List.mem_cons.mp hd with rfl | hd
  · exact h1.fine
  · rw [List.mem_singleton.mp hd]
    exact h2.fine
theorem Good.refsD_fine {p : Plan} (g : Good p) {e : Ent} (he : e ∈ p) : Fine 3 (refsD e.2.2) := Fine.tup (n := 2) fun d hd => by
  obtain ⟨r, hr, rfl⟩ := List.mem_map.mp hd
  exact refD_fine ((g.refs e he).nm r hr) (g.toNm he hr)
theorem Good.entD_fine {p : Plan} (g : Good p) {e : Ent} (he : e ∈ p) : Fine 4 (entD e) := Fine.tup (n := 3) fun d hd => by
  rcases List.mem_cons.mp hd with rfl | hd
  · exact (g.nm e he).fine.up (by decide)
  · rcases List.mem_cons.mp hd with rfl | hd
    · exact (Fine.bool _).up (by decide)
    · rw [List.mem_singleton.mp hd]
      exact g.refsD_fine he
theorem Good.fine {p : Plan} (g : Good p) : Fine 5 (planD p) := Fine.tup (n := 4) fun d hd => by
  obtain ⟨e, he, rfl⟩ := List.mem_map.mp hd
  exact g.entD_fine he
end My
namespace My
open PySem PySem.Spec PyProof.Rows L2
def rInG (K : PySem.W.Frag) : R2 := fun x y H Q => (∃ a o, y = .ref a ∧ DGet H a x o ∧ Q (.bl o.isSome) H) ∨ rIn K false x y H Q
theorem kInG {X : Cx} {K : PySem.W.Frag} (hu : X.A.units + 1 < cLine) (h : X.K = K := by rfl) : OpR X (compareOp .In) (rInG K) := by
  subst h
  intro pins s σ H x y v u Q I rx ry hq
  rcases hq with ⟨a, o, rfl, g, q⟩ | hq
  · obtain rfl : u = Value.ref a := ry
    exact d_in hu I g rx fun s3 I3 => ⟨.bl o.isSome, H, I3, rfl, q⟩
  · exact op_in_seq pins s σ H x y v u Q I rx ry hq
section
variable {K : PySem.W.Frag} {g g1 : TG} {tt tt1 : TT} {te : TE} {vs vs1 : List Nat} {σ σ2 : L2.St} {wi1 : TI}
def In2 (J : It) (g1 : TG) (tt1 : TT) (te : TE) (vs1 : List Nat) (σ2 : L2.St) (D : Addr) (Nx : Hp → Prop) (H4 : Hp) : Prop := ∃ W1 : Nat → Nat → Hp → Prop, (∃ m, W1 0 m H4) ∧ ∀ j k H, W1 j k H →
  (J.stop j H ∧ Nx H) ∨ (J.go j H ∧ ∃ Nx1 : Hp → Prop, (∀ H', Nx1 H' → ∃ k', k' < k ∧ W1 (j + 1) k' H') ∧ ∀ x H', J.yld j H x H' → g1 x (wipe σ2 vs1) H' fun σ3 H5 => wipe σ3 vs1 = wipe σ2 vs1 ∧ tt1 σ3 H5 fun b H6 =>
    if b = true then te σ3 H6 fun y H7 => ∃ acc, H7 D = some (.lst acc) ∧ acc.length < sizeLine ∧ Nx1 (upd H7 D (.lst (acc ++ [y]))) else Nx1 H6)
theorem in2_tup {a : Addr} {xs : List V} {D : Addr} {Nx : Hp → Prop} {H4 : Hp} (Pv : Nat → Hp → Prop) (h0 : Pv 0 H4) (hl : ∀ j Hj, j ≤ xs.length → Pv j Hj → SqT K Hj a xs)
    (hs : ∀ j x Hj, xs[j]? = some x → Pv j Hj → g1 x (wipe σ2 vs1) Hj fun σ3 H5 => wipe σ3 vs1 = wipe σ2 vs1 ∧ tt1 σ3 H5 fun b H6 =>
      if b = true then te σ3 H6 fun y H7 => ∃ acc, H7 D = some (.lst acc) ∧ acc.length < sizeLine ∧ Pv (j + 1) (upd H7 D (.lst (acc ++ [y]))) else Pv (j + 1) H6)
    (hd : ∀ Hj, Pv xs.length Hj → Nx Hj) : In2 (Itt K a) g1 tt1 te vs1 σ2 D Nx H4 := by
  refine ⟨fun j m Hj => m = xs.length - j ∧ j ≤ xs.length ∧ Pv j Hj, ⟨_, rfl, Nat.zero_le _, h0⟩, ?_⟩
  rintro j m Hj ⟨em, hj, p⟩
  have q := hl j Hj hj p
  by_cases l : j < xs.length
  · refine Or.inr ⟨⟨xs, xs[j], q, by simp [l]⟩, Pv (j + 1), fun H' p' => ⟨_, by omega, rfl, l, p'⟩, ?_⟩
    rintro x H' ⟨eh, hx⟩
    rw [eh]
    exact hs j x Hj (hx xs q) p
  · obtain rfl : j = xs.length := by omega
    exact Or.inl ⟨⟨xs, q, Nat.le_refl _⟩, hd Hj p⟩
theorem lc2_tup {a : Addr} {xs : List V} {D : Addr} {Qd : Hp → Prop} {H1 : Hp} (Pv : Nat → Hp → Prop) (h0 : Pv 0 (upd H1 D (.lst []))) (hl : ∀ i Hi, i ≤ xs.length → Pv i Hi → SqT K Hi a xs)
    (hs : ∀ i x Hi, xs[i]? = some x → Pv i Hi → g x (wipe σ vs) Hi fun σ2 H2 => wipe σ2 vs = wipe σ vs ∧ tt σ2 H2 fun b H3 =>
      if b = true then wi1 σ2 H3 fun J1 H4 => In2 J1 g1 tt1 te vs1 σ2 D (Pv (i + 1)) H4 else Pv (i + 1) H3)
    (hd : ∀ Hi, Pv xs.length Hi → Qd Hi) :
    ∃ W : Nat → Nat → Hp → Prop, (∃ m, W 0 m (upd H1 D (.lst []))) ∧ ∀ i m H, W i m H →
      ((Itt K a).stop i H ∧ Qd H) ∨ ((Itt K a).go i H ∧ ∃ Nx : Hp → Prop, (∀ H', Nx H' → ∃ m', m' < m ∧ W (i + 1) m' H') ∧ ∀ x H', (Itt K a).yld i H x H' → g x (wipe σ vs) H' fun σ2 H2 => wipe σ2 vs = wipe σ vs ∧ tt σ2 H2 fun b H3 =>
        if b = true then wi1 σ2 H3 fun J1 H4 => In2 J1 g1 tt1 te vs1 σ2 D Nx H4 else Nx H3) := by
  refine ⟨fun i m Hi => m = xs.length - i ∧ i ≤ xs.length ∧ Pv i Hi, ⟨_, rfl, Nat.zero_le _, h0⟩, ?_⟩
  rintro i m Hi ⟨em, hi, p⟩
  have q := hl i Hi hi p
  by_cases l : i < xs.length
  · refine Or.inr ⟨⟨xs, xs[i], q, by simp [l]⟩, Pv (i + 1), fun H' p' => ⟨_, by omega, rfl, l, p'⟩, ?_⟩
    rintro x H' ⟨eh, hx⟩
    rw [eh]
    exact hs i x Hi (hx xs q) p
  · obtain rfl : i = xs.length := by omega
    exact Or.inl ⟨⟨xs, q, Nat.le_refl _⟩, hd Hi p⟩
end
theorem entD_inv {H : Hp} {v : V} {e : Ent} (h : Td H v (entD e)) : ∃ t tr rs, v = .ref t ∧ H t = some (.tup [.str e.1, .bl e.2.1, .ref tr]) ∧ H tr = some (.tup rs) ∧ TdAll H rs (e.2.2.map refD) := by
  obtain ⟨t, xs, rfl, ht, hx⟩ := h.tup_inv
  cases hx with
  | cons h1 hx =>
    cases hx with
    | cons h2 hx =>
      cases hx with
      | cons h3 hx =>
        cases hx
        obtain ⟨tr, rs, rfl, hr, hrs⟩ := h3.tup_inv
        rw [h1.str_inv, h2.bl_inv] at ht
        exact ⟨t, tr, rs, rfl, ht, hr, hrs⟩
theorem refD_inv {H : Hp} {v : V} {r : Ref} (h : Td H v (refD r)) : ∃ t, v = .ref t ∧ H t = some (.tup [.str r.1, .str r.2]) := by
  obtain ⟨t, xs, rfl, ht, hx⟩ := h.tup_inv
  cases hx with
  | cons h1 hx =>
    cases hx with
    | cons h2 hx =>
      cases hx
      rw [h1.str_inv, h2.str_inv] at ht
      exact ⟨t, rfl, ht⟩
theorem TdAll.getM {α : Type} {H : Hp} {vs : List V} {l : List α} {f : α → PyData} {i : Nat} {v : V} (h : TdAll H vs (l.map f)) (e : vs[i]? = some v) : ∃ x, l[i]? = some x ∧ Td H v (f x) := by
  obtain ⟨d, hd, ht⟩ := h.get e
  rw [List.getElem?_map] at hd
  obtain ⟨x, hx, rfl⟩ := Option.map_eq_some_iff.mp hd
  exact ⟨x, hx, ht⟩
theorem TdAll.getM' {α : Type} {H : Hp} {vs : List V} {l : List α} {f : α → PyData} {i : Nat} {x : α} (h : TdAll H vs (l.map f)) (e : l[i]? = some x) : ∃ v, vs[i]? = some v ∧ Td H v (f x) := by
  refine h.get' (i := i) ?_
  rw [List.getElem?_map, e]
  rfl
theorem all_true (n : Nat) : (List.replicate n true).all id = true := by
  induction n with
  | zero => rfl
  | succ n ih =>
    rw [List.replicate_succ, List.all_cons, ih]
    rfl
theorem rep_bl (n : Nat) : List.replicate n (V.bl true) = (List.replicate n true).map V.bl := by rw [List.map_replicate]
theorem rep_snoc {α : Type} (n : Nat) (x : α) : List.replicate n x ++ [x] = List.replicate (n + 1) x := (List.replicate_succ' (n := n) (a := x)).symm
end My
namespace My
open PySem L2
def sFlds (tv : V) (de : Addr) : List (Str × V) := putF "_entries" (.ref de) (putF "_tables" tv [])
theorem s_ne1 : ¬ (("_entries" : Str) = "_tables") := by decide +kernel
theorem s_ne2 : ¬ (("_tables" : Str) = "_entries") := by decide +kernel
theorem sFlds_t (tv : V) (de : Addr) : (sFlds tv de).lookup ("_tables" : Str) = some tv := by
  unfold sFlds
  rw [lookup_putF, if_neg s_ne2, lookup_putF, if_pos rfl]
theorem sFlds_e (tv : V) (de : Addr) : (sFlds tv de).lookup ("_entries" : Str) = some (.ref de) := by
  unfold sFlds
  rw [lookup_putF, if_pos rfl]
theorem sFlds_no (tv : V) (de : Addr) {m : Str} (h1 : ¬ m = "_entries") (h2 : ¬ m = "_tables") : (sFlds tv de).lookup m = none := by
  unfold sFlds
  rw [lookup_putF, if_neg h1, lookup_putF, if_neg h2]
  rfl
structure EntsAt (H : Hp) (kvs : List (Key × V)) (pl : Plan) : Prop where
  keys : kvs.map (·.1) = pl.map fun e => (Sum.inr e.1 : Key)
  vals : TdAll H (kvs.map (·.2)) (pl.map entD)
structure SchAt (C : Addr) (H : Hp) (p : Addr) (pl : Plan) : Prop where
  good : Good pl
  ex : ∃ dx tv de kvs, H p = some (.ins C dx (sFlds tv de)) ∧ Td H tv (planD pl) ∧ H de = some (.dK kvs) ∧ EntsAt H kvs pl
theorem SchAt.fr {C p a : Addr} {H H' : Hp} {pl : Plan} {xs : List V} (S : SchAt C H p pl) (e : Fr1 a H H') (ha : H a = some (.lst xs)) : SchAt C H' p pl := by
  obtain ⟨dx, tv, de, kvs, h1, h2, h3, h4⟩ := S.ex
  have kt := e.kt ha
  exact ⟨S.good, dx, tv, de, kvs, e p _ (ne_of h1 ha (by intro z; cases z)) h1, h2.mono kt, e de _ (ne_of h3 ha (by intro z; cases z)) h3, h4.keys, h4.vals.mono kt⟩
theorem SchAt.same {C p : Addr} {H H' : Hp} {pl : Plan} (S : SchAt C H p pl) (e : Same H H') : SchAt C H' p pl := by
  obtain ⟨dx, tv, de, kvs, h1, h2, h3, h4⟩ := S.ex
  exact ⟨S.good, dx, tv, de, kvs, e p _ h1, h2.kt_same e, e de _ h3, h4.keys, h4.vals.mono (KT.of e)⟩
theorem SchAt.ins {C p : Addr} {H : Hp} {pl : Plan} (S : SchAt C H p pl) : ∃ dx fs, H p = some (.ins C dx fs) := by
  obtain ⟨dx, tv, de, kvs, h1, _⟩ := S.ex
  exact ⟨_, _, h1⟩
theorem valV_mem {kvs : List (Key × V)} {pl : Plan} (hk : kvs.map (·.1) = pl.map fun e => (Sum.inr e.1 : Key)) (nd : (pl.map (·.1)).Nodup) : ∀ {H : Hp}, TdAll H (kvs.map (·.2)) (pl.map entD) → ∀ e ∈ pl, ∃ v, valV kvs (Sum.inr e.1) = some v ∧ Td H v (entD e) := by
  induction kvs generalizing pl with
  | nil =>
    intro H _ e he
    cases pl with
    | nil => cases he
    | cons _ _ => simp at hk
  | cons q r ih =>
    intro H ht e he
    cases pl with
    | nil => cases he
    | cons e0 pr =>
      rw [List.map_cons, List.map_cons] at hk ht
      have hk1 : q.1 = Sum.inr e0.1 := (List.cons.inj hk).1
      have hk2 := (List.cons.inj hk).2
      rw [List.map_cons] at nd
      obtain ⟨nd1, nd2⟩ := List.nodup_cons.mp nd
      cases ht with
      | cons h1 h2 =>
        by_cases c : e.1 = e0.1
        · have ee : e = e0 := by
            rcases List.mem_cons.mp he with h | h
            · exact h
            · exact absurd (List.mem_map.mpr ⟨e, h, c⟩) nd1
          subst ee
          refine ⟨q.2, ?_, h1⟩
          unfold valV
          simp [hk1]
        · rcases List.mem_cons.mp he with h | h
          · exact absurd (by rw [h]) c
          · obtain ⟨v, hv, hT⟩ := ih hk2 nd2 h2 e h
            refine ⟨v, ?_, hT⟩
            rw [← hv]
            unfold valV
            have : ¬ q.1 = Sum.inr e.1 := by
              rw [hk1]
              intro z
              exact c (Sum.inr.inj z).symm
            simp [this]
theorem valV_no {kvs : List (Key × V)} {pl : Plan} (hk : kvs.map (·.1) = pl.map fun e => (Sum.inr e.1 : Key)) {w : Str} (h : w ∉ pl.map (·.1)) : valV kvs (Sum.inr w) = none := by
  cases c : valV kvs (Sum.inr w : Key) with
  | none => rfl
  | some v =>
    have := valV_in c
    rw [hk] at this
    obtain ⟨e, he, ee⟩ := List.mem_map.mp this
    exact absurd (List.mem_map.mpr ⟨e, he, Sum.inr.inj ee⟩) h
theorem EntsAt.get {H : Hp} {kvs : List (Key × V)} {pl : Plan} (h : EntsAt H kvs pl) (g : Good pl) {e : Ent} (he : e ∈ pl) : ∃ v, valV kvs (Sum.inr e.1) = some v ∧ Td H v (entD e) := valV_mem h.keys g.nd h.vals e he
end My
namespace My
open PySem PySem.Spec PyProof.Rows L2
section
variable {X : Cx} {k : Nat} {C : Addr} {sp : Sp}
def rInOwn (C : Addr) (sp : Sp) : R2 := fun x y H Q => ∃ a dx fs, y = .ref a ∧ H a = some (.ins C dx fs) ∧ sp [.ref a, x] H (fun v H2 => ∃ b, v = .bl b ∧ Q (.bl b) H2) E0
theorem op_inOwn (G : MethOk X.prog X.w X.K X.mg X.base k C "__contains__" sp) (hr : Room k X.A) : OpR X (compareOp .In) (rInOwn C sp) := by
  obtain ⟨f, fd, ps, F, hm, hb, c⟩ := G.ex
  intro pins s σ H x y v u Q I rx ry h
  obtain ⟨a, dx, fs, rfl, ha, h⟩ := h
  obtain rfl : u = Value.ref a := ry
  obtain ⟨m, fr⟩ := I.fr
  obtain ⟨mA, O, _⟩ := ins_get I.hok ha
  obtain ⟨od, J, _⟩ := O.look
  refine PySem.W.in_K fr I.ok.mod.kin J hm.at_ hm.fn (thn (run_fn (us := [.ref a, v]) (vs := [.ref a, x]) F hr hb .nil pass0 I (.cons rfl (.cons rx .nil)) h) fun r s1 ⟨z, H1, I1, r1, b, ez, q⟩ => ?_)
  subst ez
  cases r1
  exact wpAny_truthy_bool ⟨.bl b, H1, I1, rfl, q⟩
def rSetOwn (C : Addr) (sp : Sp) : V → V → V → Hp → (Hp → Prop) → Prop := fun o i v H Q => ∃ a dx fs, o = .ref a ∧ H a = some (.ins C dx fs) ∧ sp [.ref a, i, v] H (fun _ H2 => Q H2) E0
theorem set_own (G : MethOk X.prog X.w X.K X.mg X.base k C "__setitem__" sp) (hr : Room k X.A) (hq : PySem.W.noSeq X.K C = true) : PSet X (rSetOwn C sp) := by
  obtain ⟨f, fd, ps, F, hm, hb, c⟩ := G.ex
  intro pins s σ H o i v ov iv u Q I ro ri rv h
  obtain ⟨a, dx, fs, rfl, ha, h⟩ := h
  obtain rfl : ov = Value.ref a := ro
  obtain ⟨m, fr⟩ := I.fr
  obtain ⟨mA, O, _⟩ := ins_get I.hok ha
  obtain ⟨od, J, _⟩ := O.look
  exact PySem.W.ksp_setItem fr I.ok.mod.kin J hq hm.at_ hm.fn (thn (run_fn (us := [.ref a, iv, u]) (vs := [.ref a, i, v]) F hr hb .nil pass0 I (.cons rfl (.cons ri (.cons rv .nil))) h) fun r s1 ⟨z, H1, I1, r1, q⟩ => ⟨H1, I1, q⟩)
def rGetOwn (C : Addr) (sp : Sp) : R2 := fun x y H Q => ∃ a dx fs, x = .ref a ∧ H a = some (.ins C dx fs) ∧ sp [.ref a, y] H Q E0
theorem kDict {K : PySem.W.Frag} (h : X.K = K := by rfl) : CallR X (.type "dict") (fun xs H Q => ∃ (a : Addr) (kvs : List (Key × V)), xs = [.ref a] ∧ Rd H a (.dK kvs) ∧ ∀ p, H p = none → Q (.ref p) (upd H p (.dK kvs))) := by
  subst h
  exact call_dictD
end
def TupX (a : Addr) (ws : List Str) : HO := .ext fun h => ws.length ≤ sizeLine ∧ ∃ its : List Value, Vals (ws.map V.str) its ∧ h.get? a = some ({ cls := .type "tuple", data := .seq its.toArray } : Obj)
section
variable {X : Cx} {pins : List (Addr × Obj)} {σ : L2.St} {H : Hp} {s : Shared}
theorem tupX_at {a : Addr} {ws : List Str} (I : Inv X pins σ H s) (h : H a = some (TupX a ws)) : ws.length ≤ sizeLine ∧ ∃ its : List Value, Vals (ws.map V.str) its ∧ s.heap.get? a = some ({ cls := .type "tuple", data := .seq its.toArray } : Obj) := (I.hok a _ h).1
def rTupX (K : PySem.W.Frag) : List V → Hp → VK → Prop := fun xs H Q => ∃ (p : Addr) (ws : List Str), xs = [.ref p] ∧ SqL K H p (ws.map V.str) ∧ ∀ l, H l = none → Q (.ref l) (upd H l (TupX l ws))
theorem kTupX {K : PySem.W.Frag} (hK : X.K = K := by rfl) : CallR X (.type "tuple") (rTupX K) := by
  subst hK
  intro pins s0 σ H0 xs us Q I0 r0 h0
  obtain ⟨p, ws, rfl, hq, q⟩ := h0
  obtain ⟨u, rfl, rx⟩ := vals1 r0
  cases rx
  obtain ⟨its, ri, pl, hz⟩ := I0.list hq
  have hn := ri.length
  rw [List.length_map] at hn hz
  refine call_tuple_list pl.isList (fun h9 kp => ?_) (by simp only [List.size_toArray]; omega)
  have I1 : Inv X pins σ H0 { s0 with heap := h9 } := I0.kept (t' := s0.toks) kp
  have hget : (h9.push ({ cls := .type "tuple", data := .seq its.toArray } : Obj)).get? h9.objs.size = some ({ cls := .type "tuple", data := .seq its.toArray } : Obj) := Heap.get?_push_size _ rfl
  have I2 : Inv X pins σ (upd H0 h9.objs.size (TupX h9.objs.size ws)) { s0 with heap := h9.push { cls := .type "tuple", data := .seq its.toArray } } :=
    I1.laid (t' := s0.toks) (fun b o e => Heap.get?_push_of_some _ e) (Nat.le_refl _) ⟨⟨hz, its, ri, hget⟩, ⟨_, hget⟩, fun h1 h2 ⟨z1, z2, z3, z4⟩ k => ⟨z1, z2, z3, k _ z4⟩⟩
  exact ⟨.ref h9.objs.size, _, I2, rfl, q _ (I1.hok.fresh (Nat.le_refl _))⟩
theorem call_lenX : CallR X (.builtin "len") (fun xs H Q => ∃ (p : Addr) (ws : List Str), xs = [.ref p] ∧ H p = some (TupX p ws) ∧ Q (.int ws.length) H) := by
  intro pins s0 σ H0 xs us Q I0 r0 h0
  obtain ⟨p, ws, rfl, hq, q⟩ := h0
  obtain ⟨u, rfl, rx⟩ := vals1 r0
  cases rx
  have l63 := line63
  obtain ⟨hz, its, ri, hg⟩ := tupX_at I0 hq
  have hn := ri.length
  rw [List.length_map] at hn
  exact len_tuple ⟨_, hg, rfl, _, rfl⟩ (by simp only [List.size_toArray]; omega) ⟨.int ws.length, H0, I0.tok _, ⟨s0.toks + 1, by rw [List.size_toArray, hn]⟩, q⟩
def tIdxX (to : TE) (t : TA) : TE := fun σ H Q => to σ H fun x H1 => ∃ (p : Addr) (ws : List Str), x = .ref p ∧ H1 p = some (TupX p ws) ∧ t σ H1 fun vs H2 => H2 p = some (TupX p ws) ∧ ∃ (z : Str) (j : Nat), vs = [.str z] ∧ ws[j]? = some z ∧ (∀ m, m < j → ws[m]? ≠ some z) ∧ Q (.int (j : Nat)) H2
theorem pe_idxX {o e : Expr} {to : TE} {t : TA} {apos cpos : Pos} (ho : PE X o to) (ha : PA X [e] t) (hbase : attributeBase o "index" X.env (eval o X.env) = eval o X.env := by rfl)
    (hfew : ((backTo cpos (starEach [e] X.env)).all (fun x => !x.1) && (backToKw cpos (keywordEach [] X.env)).all (fun x => x.1.isSome)
      && decide ([e].length + ([] : List Keyword).length + (if ([] : List Keyword).isEmpty then 0 else 1) < 30)) = true := by rfl)
    (hline : (apos.endLine == cpos.line) = true := by rfl) (hs : starEach [e] X.env = (false, eval e X.env) :: starEach [] X.env := by rfl) (hplain : (backTo cpos (starEach [] X.env)).any (·.1) = false := by rfl) :
    PE X (.Call (.Attribute o "index" apos) [e] [] cpos) (tIdxX to t) := by
  refine ⟨fun pins s0 σ H0 Q I0 h0 => ?_⟩
  refine wpAny_Call_method_late hbase hfew hline rfl (thn (ho.run pins s0 σ H0 _ I0 h0) fun v s1 ⟨x, H1, I1, r1, p, ws, ex, hX, q1⟩ => ?_)
  subst ex
  cases r1
  obtain ⟨hz, its, ri, hg⟩ := tupX_at I1 hX
  refine ⟨"tuple", "tuple.index", PySem.F.plainAttrs_tuple, PySem.F.slot_tuple_index, PySem.F.type_tuple_index, ⟨_, hg, rfl⟩, fun a ea => ?_, ?_⟩
  · cases ea
    exact ⟨_, hg, rfl⟩
  have hA := ha.run cpos pins s1 σ H1 _ I1 q1
  rw [hs] at hA ⊢
  refine Calls.callWith_builtin (by show (false || (backTo cpos (starEach [] X.env)).any (·.1)) = false; rw [hplain]; rfl) (Calls.evalArgs_plain ?_)
  refine thn hA fun us s2 ⟨vs, H2, I2, r2, hX2, z, j, ev, hj, hno, q⟩ => ?_
  subst ev
  obtain ⟨u, rfl, tk, rfl⟩ := vals1 r2
  obtain ⟨_, its2, rj, hg2⟩ := tupX_at I2 hX2
  have hl : its2.toArray.size = ws.length := by rw [List.size_toArray, ← rj.length, List.length_map]
  have hjs : j < its2.toArray.size := by rw [hl]; exact (List.getElem?_eq_some_iff.mp hj).1
  have each : ∀ (m : Nat) (hm : m < its2.toArray.size), ∃ y t', ws[m]? = some y ∧ its2.toArray[m] = Value.str y t' := fun m hm => by
    have hmw : m < ws.length := by rw [← hl]; exact hm
    obtain ⟨w, hw, t', ew⟩ := rj.get (i := m) (x := .str ws[m]) (by simp [hmw])
    refine ⟨ws[m], t', List.getElem?_eq_getElem hmw, ?_⟩
    rw [← ew, ← (List.getElem?_eq_some_iff.mp hw).2]
    simp
  refine call_meets PySem.F.slot_tuple_index ⟨_, hg2, rfl⟩ PySem.F.entry_tuple_index (PySem.F.args_tuple_index_2 _ _) (TI.tuple_indexAt p its2.toArray 0 none #[] (.str z tk) (eqU (.str z)) j hjs ?_ ?_)
    ⟨hg2, fun w hw => mem_eqAt (x := .str z) ⟨tk, rfl⟩ rfl rj (flat_strs ws) w (by simpa using hw), ⟨.int (j : Nat), H2, I2.tok _, ⟨_, rfl⟩, q⟩⟩
  · obtain ⟨y, t', h1, h2⟩ := each j hjs
    rw [hj] at h1
    cases h1
    rw [h2]
    exact beq_self_eq_true z
  · intro m hm hmj
    obtain ⟨y, t', h1, h2⟩ := each m hm
    rw [h2]
    exact beq_eq_false_iff_ne.mpr fun e => hno m hmj (e ▸ h1)
end
def FrF (F : List Addr) (H H' : Hp) : Prop := ∀ c o, c ∉ F → H c = some o → H' c = some o
theorem FrF.refl (F : List Addr) (H : Hp) : FrF F H H := fun _ _ _ h => h
theorem FrF.trans {F : List Addr} {H H1 H2 : Hp} (e : FrF F H H1) (f : FrF F H1 H2) : FrF F H H2 := fun c o n h => f c o n (e c o n h)
theorem FrF.of {F : List Addr} {H H' : Hp} (e : Same H H') : FrF F H H' := fun c o _ h => e c o h
theorem FrF.same {F : List Addr} {H H1 H2 : Hp} (e : Same H H1) (f : FrF F H1 H2) (n : ∀ c ∈ F, H c = none) : Same H H2 := fun c o h => f c o (fun m => by
  rw [n c m] at h
  cases h) (e c o h)
theorem FrF.at {F : List Addr} {H H' : Hp} {a : Addr} {o : HO} (e : FrF F H H') (m : a ∈ F) : FrF F H (upd H' a o) := fun c u n h => by
  rw [upd_ne (fun z => n (by rw [z]; exact m))]
  exact e c u n h
structure Kept (F : List Addr) (H H' : Hp) : Prop where
  ob : ∀ c ∈ F, ∀ o, H c = some o → H' c = some o
  kt : KT H H'
theorem Kept.of {F : List Addr} {H H' : Hp} (e : Same H H') : Kept F H H' := ⟨fun c _ o h => e c o h, KT.of e⟩
theorem FrF.kept {F G : List Addr} {H H' : Hp} (e : FrF F H H') (d : ∀ c ∈ G, c ∉ F) (n : ∀ c ∈ F, ∀ xs, H c ≠ some (.tup xs)) : Kept G H H' :=
  ⟨fun c m o h => e c o (d c m) h, fun c xs h => e c _ (fun m => n c m xs h) h⟩
theorem Same.unlock {d : Addr} {od : Obj} {u : HO} {H H' : Hp} (e : Same (L2.upd H d (.frz od u)) H') (h : H d = some u) : Same H (L2.upd H' d u) := fun c o hc => by
  by_cases z : c = d
  · rw [z, upd_same]
    rw [z, h] at hc
    exact hc
  · rw [upd_ne z]
    exact e c o (by rw [upd_ne z]; exact hc)
theorem Same.locked {d : Addr} {od : Obj} {kvs : List (Key × V)} {H : Hp} (h : H d = some (.dK kvs)) : KT H (L2.upd H d (.frz od (.dK kvs))) := fun c xs hc => by
  rw [upd_ne (ne_of hc h (by intro z; cases z))]
  exact hc
section
variable {g : TG} {tt : TT} {te tk tv : TE} {tb : TS} {vs : List Nat} {σ : L2.St} {H1 : Hp} {D d : Addr} {Qd : Hp → Prop} {o : Obj} {kvs : List (Key × V)} {Dn : Ends}
theorem lc_keys (Pv : Nat → Hp → Prop) (h0 : Pv 0 (upd H1 D (.lst []))) (hl : ∀ i Hi, i ≤ kvs.length → Pv i Hi → Hi d = some (.frz o (.dK kvs)))
    (hs : ∀ i k v Hi, kvs[i]? = some (k, v) → Pv i Hi → g (kV k) (wipe σ vs) Hi fun σ2 H2 => wipe σ2 vs = wipe σ vs ∧ tt σ2 H2 fun b H3 =>
      if b = true then te σ2 H3 fun y H4 => ∃ acc, H4 D = some (.lst acc) ∧ acc.length < sizeLine ∧ Pv (i + 1) (upd H4 D (.lst (acc ++ [y]))) else Pv (i + 1) H3)
    (hd : ∀ Hi, Pv kvs.length Hi → Qd Hi) :
    ∃ W : Nat → Nat → Hp → Prop, (∃ m, W 0 m (upd H1 D (.lst []))) ∧ ∀ i m Hi, W i m Hi →
      ((Itk d o kvs).stop i Hi ∧ Qd Hi) ∨ ((Itk d o kvs).go i Hi ∧ ∃ Nx : Hp → Prop, (∀ H', Nx H' → ∃ m', m' < m ∧ W (i + 1) m' H') ∧ ∀ v H', (Itk d o kvs).yld i Hi v H' → g v (wipe σ vs) H' fun σ2 H2 => wipe σ2 vs = wipe σ vs ∧ tt σ2 H2 fun b H3 =>
        if b = true then te σ2 H3 fun y H4 => ∃ acc, H4 D = some (.lst acc) ∧ acc.length < sizeLine ∧ Nx (upd H4 D (.lst (acc ++ [y]))) else Nx H3) := by
  refine ⟨fun i m Hi => m = kvs.length - i ∧ i ≤ kvs.length ∧ Pv i Hi, ⟨_, rfl, Nat.zero_le _, h0⟩, ?_⟩
  rintro i m Hi ⟨em, hi, p⟩
  have q := hl i Hi hi p
  by_cases l : i < kvs.length
  · refine Or.inr ⟨⟨q, l⟩, Pv (i + 1), fun H' p' => ⟨_, by omega, rfl, l, p'⟩, ?_⟩
    rintro x H' ⟨eh, k, v, hk, rfl⟩
    rw [eh]
    exact hs i k v Hi hk p
  · obtain rfl : i = kvs.length := by omega
    exact Or.inl ⟨⟨q, Nat.le_refl _⟩, hd Hi p⟩
theorem lc_vals (Pv : Nat → Hp → Prop) (h0 : Pv 0 (upd H1 D (.lst []))) (hl : ∀ i Hi, i ≤ kvs.length → Pv i Hi → Hi d = some (.frz o (.dK kvs)))
    (hs : ∀ i k v Hi, kvs[i]? = some (k, v) → Pv i Hi → g v (wipe σ vs) Hi fun σ2 H2 => wipe σ2 vs = wipe σ vs ∧ tt σ2 H2 fun b H3 =>
      if b = true then te σ2 H3 fun y H4 => ∃ acc, H4 D = some (.lst acc) ∧ acc.length < sizeLine ∧ Pv (i + 1) (upd H4 D (.lst (acc ++ [y]))) else Pv (i + 1) H3)
    (hd : ∀ Hi, Pv kvs.length Hi → Qd Hi) :
    ∃ W : Nat → Nat → Hp → Prop, (∃ m, W 0 m (upd H1 D (.lst []))) ∧ ∀ i m Hi, W i m Hi →
      ((Itd d o kvs).stop i Hi ∧ Qd Hi) ∨ ((Itd d o kvs).go i Hi ∧ ∃ Nx : Hp → Prop, (∀ H', Nx H' → ∃ m', m' < m ∧ W (i + 1) m' H') ∧ ∀ v H', (Itd d o kvs).yld i Hi v H' → g v (wipe σ vs) H' fun σ2 H2 => wipe σ2 vs = wipe σ vs ∧ tt σ2 H2 fun b H3 =>
        if b = true then te σ2 H3 fun y H4 => ∃ acc, H4 D = some (.lst acc) ∧ acc.length < sizeLine ∧ Nx (upd H4 D (.lst (acc ++ [y]))) else Nx H3) := by
  refine ⟨fun i m Hi => m = kvs.length - i ∧ i ≤ kvs.length ∧ Pv i Hi, ⟨_, rfl, Nat.zero_le _, h0⟩, ?_⟩
  rintro i m Hi ⟨em, hi, p⟩
  have q := hl i Hi hi p
  by_cases l : i < kvs.length
  · refine Or.inr ⟨⟨q, l⟩, Pv (i + 1), fun H' p' => ⟨_, by omega, rfl, l, p'⟩, ?_⟩
    rintro x H' ⟨eh, k, hk⟩
    rw [eh]
    exact hs i k x Hi hk p
  · obtain rfl : i = kvs.length := by omega
    exact Or.inl ⟨⟨q, Nat.le_refl _⟩, hd Hi p⟩
theorem dc_keys (Pv : Nat → Hp → Prop) (h0 : Pv 0 (upd H1 D (.dK []))) (hl : ∀ i Hi, i ≤ kvs.length → Pv i Hi → Hi d = some (.frz o (.dK kvs)))
    (hs : ∀ i k v Hi, kvs[i]? = some (k, v) → Pv i Hi → g (kV k) (wipe σ vs) Hi fun σ2 H2 => wipe σ2 vs = wipe σ vs ∧ tt σ2 H2 fun b H3 =>
      if b = true then tk σ2 H3 fun y H4 => tv σ2 H4 fun z H5 => ∃ kvs k, y = kV k ∧ H5 D = some (.dK kvs) ∧ kvs.length < sizeLine ∧ Pv (i + 1) (upd H5 D (.dK (putK kvs k z))) else Pv (i + 1) H3)
    (hd : ∀ Hi, Pv kvs.length Hi → Qd Hi) :
    ∃ W : Nat → Nat → Hp → Prop, (∃ m, W 0 m (upd H1 D (.dK []))) ∧ ∀ i m Hi, W i m Hi →
      ((Itk d o kvs).stop i Hi ∧ Qd Hi) ∨ ((Itk d o kvs).go i Hi ∧ ∃ Nx : Hp → Prop, (∀ H', Nx H' → ∃ m', m' < m ∧ W (i + 1) m' H') ∧ ∀ v H', (Itk d o kvs).yld i Hi v H' → g v (wipe σ vs) H' fun σ2 H2 => wipe σ2 vs = wipe σ vs ∧ tt σ2 H2 fun b H3 =>
        if b = true then tk σ2 H3 fun y H4 => tv σ2 H4 fun z H5 => ∃ kvs k, y = kV k ∧ H5 D = some (.dK kvs) ∧ kvs.length < sizeLine ∧ Nx (upd H5 D (.dK (putK kvs k z))) else Nx H3) := by
  refine ⟨fun i m Hi => m = kvs.length - i ∧ i ≤ kvs.length ∧ Pv i Hi, ⟨_, rfl, Nat.zero_le _, h0⟩, ?_⟩
  rintro i m Hi ⟨em, hi, p⟩
  have q := hl i Hi hi p
  by_cases l : i < kvs.length
  · refine Or.inr ⟨⟨q, l⟩, Pv (i + 1), fun H' p' => ⟨_, by omega, rfl, l, p'⟩, ?_⟩
    rintro x H' ⟨eh, k, v, hk, rfl⟩
    rw [eh]
    exact hs i k v Hi hk p
  · obtain rfl : i = kvs.length := by omega
    exact Or.inl ⟨⟨q, Nat.le_refl _⟩, hd Hi p⟩
theorem for_vals (Pv : Nat → L2.St → Hp → Prop) (h0 : Pv 0 σ H1) (hl : ∀ i σ' Hi, i ≤ kvs.length → Pv i σ' Hi → Hi d = some (.frz o (.dK kvs)))
    (hs : ∀ i k v σ' Hi, kvs[i]? = some (k, v) → Pv i σ' Hi → g v σ' Hi fun σ2 H2 => tb { Dn with nx := Pv (i + 1), ct := Pv (i + 1), bk := Dn.nx } σ2 H2) (hd : ∀ σ' Hi, Pv kvs.length σ' Hi → Dn.nx σ' Hi) :
    ∃ W : Nat → Nat → L2.St → Hp → Prop, (∃ m, W 0 m σ H1) ∧ ∀ i m σ' Hi, W i m σ' Hi →
      ((Itd d o kvs).stop i Hi ∧ Dn.nx σ' Hi) ∨ ((Itd d o kvs).go i Hi ∧ ∃ N : L2.St → Hp → Prop, (∀ σ2 H', N σ2 H' → ∃ m', m' < m ∧ W (i + 1) m' σ2 H') ∧ ∀ x H', (Itd d o kvs).yld i Hi x H' → g x σ' H' fun σ2 H2 => tb { Dn with nx := N, ct := N, bk := Dn.nx } σ2 H2) := by
  refine ⟨fun i m σ' Hi => m = kvs.length - i ∧ i ≤ kvs.length ∧ Pv i σ' Hi, ⟨_, rfl, Nat.zero_le _, h0⟩, ?_⟩
  rintro i m σ' Hi ⟨em, hi, p⟩
  have q := hl i σ' Hi hi p
  by_cases l : i < kvs.length
  · refine Or.inr ⟨⟨q, l⟩, Pv (i + 1), fun σ2 H' p' => ⟨_, by omega, rfl, l, p'⟩, ?_⟩
    rintro x H' ⟨eh, k, hk⟩
    rw [eh]
    exact hs i k x σ' Hi hk p
  · obtain rfl : i = kvs.length := by omega
    exact Or.inl ⟨⟨q, Nat.le_refl _⟩, hd σ' Hi p⟩
end
theorem valV_at {kvs : List (Key × V)} (nd : (kvs.map (·.1)).Nodup) {i : Nat} {k : Key} {v : V} (h : kvs[i]? = some (k, v)) : valV kvs k = some v := by
  induction kvs generalizing i with
  | nil => simp at h
  | cons q r ih =>
    rw [List.map_cons] at nd
    obtain ⟨n1, n2⟩ := List.nodup_cons.mp nd
    cases i with
    | zero =>
      have h : q = (k, v) := Option.some.inj h
      subst h
      exact valV_pos rfl
    | succ i =>
      have hm : (k, v) ∈ r := List.mem_of_getElem? (i := i) h
      have : ¬ q.1 = k := fun z => n1 (by rw [z]; exact List.mem_map.mpr ⟨_, hm, rfl⟩)
      rw [valV_neg this]
      exact ih n2 (i := i) h
end My
namespace My
open PySem L2
structure SchE (C : Addr) (H : Hp) (p : Addr) (pl : Plan) (de : Addr) : Prop where
  good : Good pl
  ex : ∃ dx tv kvs, H p = some (.ins C dx (sFlds tv de)) ∧ Td H tv (planD pl) ∧ H de = some (.dK kvs) ∧ EntsAt H kvs pl
theorem SchE.at {C p de : Addr} {H : Hp} {pl : Plan} (S : SchE C H p pl de) : SchAt C H p pl := by
  obtain ⟨dx, tv, kvs, h1, h2, h3, h4⟩ := S.ex
  exact ⟨S.good, dx, tv, de, kvs, h1, h2, h3, h4⟩
theorem SchE.keep {C p de : Addr} {H H' : Hp} {pl : Plan} (S : SchE C H p pl de) (kt : KT H H') (k1 : ∀ o, H p = some o → H' p = some o) (k2 : ∀ o, H de = some o → H' de = some o) : SchE C H' p pl de := by
  obtain ⟨dx, tv, kvs, h1, h2, h3, h4⟩ := S.ex
  exact ⟨S.good, dx, tv, kvs, k1 _ h1, h2.mono kt, k2 _ h3, h4.keys, h4.vals.mono kt⟩
def cellD : Option Int → PyData
  | none => .none
  | some i => .int i
def rowD (lab : Int) (cs : List (Option Int)) : PyData := .tuple [.int lab, .tuple (cs.map cellD)]
structure GoodRow (w : Nat) (lab : Int) (cs : List (Option Int)) : Prop where
  lo : 0 ≤ lab
  hi : lab < 1000000000000000000000000000000
  len : cs.length = w
  key : ∀ x, some x ∈ cs → 1 ≤ x
structure RowsAt (H : Hp) (kvs : List (Key × V)) (w : Nat) : Prop where
  nd : (kvs.map (·.1)).Nodup
  row : ∀ q ∈ kvs, ∃ (k lab : Int) (cs : List (Option Int)), q.1 = Sum.inl k ∧ 1 ≤ k ∧ Td H q.2 (rowD lab cs) ∧ GoodRow w lab cs
theorem RowsAt.mono {H H' : Hp} {kvs : List (Key × V)} {w : Nat} (r : RowsAt H kvs w) (kt : KT H H') : RowsAt H' kvs w := ⟨r.nd, fun q hq => by
  obtain ⟨k, lab, cs, h1, h2, h3, h4⟩ := r.row q hq
  exact ⟨k, lab, cs, h1, h2, h3.mono kt, h4⟩⟩
theorem RowsAt.nil (H : Hp) (w : Nat) : RowsAt H [] w := ⟨List.nodup_nil, by simp⟩
theorem rowD_inv {H : Hp} {v : V} {lab : Int} {cs : List (Option Int)} (h : Td H v (rowD lab cs)) : ∃ t tc xs, v = .ref t ∧ H t = some (.tup [.int lab, .ref tc]) ∧ H tc = some (.tup xs) ∧ TdAll H xs (cs.map cellD) := by
  obtain ⟨t, xs, rfl, ht, hx⟩ := h.tup_inv
  cases hx with
  | cons h1 hx =>
    cases hx with
    | cons h2 hx =>
      cases hx
      obtain ⟨tc, ys, rfl, hc, hy⟩ := h2.tup_inv
      rw [h1.int_inv] at ht
      exact ⟨t, tc, ys, rfl, ht, hc, hy⟩
def cellV : Option Int → V
  | none => .non
  | some i => .int i
theorem cellD_inv {H : Hp} {v : V} {c : Option Int} (h : Td H v (cellD c)) : v = cellV c := by
  cases c with
  | none =>
    cases h
    rfl
  | some i =>
    cases h
    rfl
theorem cellD_of {H : Hp} (c : Option Int) : Td H (cellV c) (cellD c) := by
  cases c with
  | none => exact .non
  | some i => exact .int i
def dFlds (sp dr : Addr) : List (Str × V) := putF "_rows" (.ref dr) (putF "_schema" (.ref sp) [])
theorem d_ne1 : ¬ (("_rows" : Str) = "_schema") := by decide +kernel
theorem d_ne2 : ¬ (("_schema" : Str) = "_rows") := by decide +kernel
theorem dFlds_s (sp dr : Addr) : (dFlds sp dr).lookup ("_schema" : Str) = some (.ref sp) := by
  unfold dFlds
  rw [lookup_putF, if_neg d_ne2, lookup_putF, if_pos rfl]
theorem dFlds_r (sp dr : Addr) : (dFlds sp dr).lookup ("_rows" : Str) = some (.ref dr) := by
  unfold dFlds
  rw [lookup_putF, if_pos rfl]
theorem dFlds_no (sp dr : Addr) {m : Str} (h1 : ¬ m = "_rows") (h2 : ¬ m = "_schema") : (dFlds sp dr).lookup m = none := by
  unfold dFlds
  rw [lookup_putF, if_neg h1, lookup_putF, if_neg h2]
  rfl
theorem dFlds_eq (sp dr : Addr) : dFlds sp dr = ([("_schema", V.ref sp), ("_rows", V.ref dr)] : List (Str × V)) := by
  show (if ("_schema" : Str) = "_rows" then [(("_schema" : Str), V.ref dr)] else (("_schema" : Str), V.ref sp) :: putF "_rows" (V.ref dr) []) = _
  rw [if_neg d_ne2]
  rfl
theorem dFlds_put (sp dr dr' : Addr) : putF "_rows" (.ref dr') (dFlds sp dr) = dFlds sp dr' := by
  rw [dFlds_eq, dFlds_eq]
  show (if ("_schema" : Str) = "_rows" then _ else (("_schema" : Str), V.ref sp) :: (if ("_rows" : Str) = "_rows" then [(("_rows" : Str), V.ref dr')] else _)) = _
  rw [if_neg d_ne2, if_pos rfl]
def rowsK (pl : Plan) (ds : List Addr) : List (Key × V) := (pl.map fun e => (Sum.inr e.1 : Key)).zip (ds.map V.ref)
theorem rowsK_keys {pl : Plan} {ds : List Addr} (h : ds.length = pl.length) : (rowsK pl ds).map (·.1) = pl.map fun e => (Sum.inr e.1 : Key) := by
  unfold rowsK
  rw [List.map_fst_zip]
  rw [List.length_map, List.length_map]
  omega
theorem rowsK_get : ∀ {pl : Plan} {ds : List Addr} {i : Nat} {e : Ent} {d : Addr}, (pl.map (·.1)).Nodup → pl[i]? = some e → ds[i]? = some d → valV (rowsK pl ds) (Sum.inr e.1) = some (.ref d)
  | [], _, _, _, _, _, h, _ => by simp at h
  | _ :: _, [], _, _, _, _, _, h => by simp at h
  | e0 :: pr, d0 :: dr, 0, e, d, _, h1, h2 => by
    have h1 : e0 = e := Option.some.inj h1
    have h2 : d0 = d := Option.some.inj h2
    subst h1
    subst h2
    exact valV_pos rfl
  | e0 :: pr, d0 :: dr, i + 1, e, d, nd, h1, h2 => by
    rw [List.map_cons] at nd
    obtain ⟨n1, n2⟩ := List.nodup_cons.mp nd
    have hm : e ∈ pr := List.mem_of_getElem? (i := i) h1
    have : ¬ (Sum.inr e0.1 : Key) = Sum.inr e.1 := fun z => n1 (by rw [Sum.inr.inj z]; exact List.mem_map.mpr ⟨e, hm, rfl⟩)
    show valV ((Sum.inr e0.1, V.ref d0) :: rowsK pr dr) _ = _
    rw [valV_neg this]
    exact rowsK_get (i := i) n2 h1 h2
structure DbAt (CD CS : Addr) (H : Hp) (p : Addr) (pl : Plan) (sp de dr : Addr) (ds : List Addr) (ct : List (List (Key × V))) : Prop where
  sch : SchE CS H sp pl de
  ob : ∃ dx, H p = some (.ins CD dx (dFlds sp dr))
  rws : H dr = some (.dK (rowsK pl ds))
  dl : ds.length = pl.length
  cl : ct.length = pl.length
  nd : ds.Nodup
  apart : dr ∉ ds ∧ de ∉ ds
  at_ : ∀ (i : Nat) (d : Addr) (kvs : List (Key × V)), ds[i]? = some d → ct[i]? = some kvs → H d = some (.dK kvs)
  ok : ∀ (i : Nat) (e : Ent) (kvs : List (Key × V)), pl[i]? = some e → ct[i]? = some kvs → RowsAt H kvs e.2.2.length
def foot (p sp de dr : Addr) (ds : List Addr) : List Addr := p :: sp :: de :: dr :: ds
theorem DbAt.keep {CD CS p sp de dr : Addr} {H H' : Hp} {pl : Plan} {ds : List Addr} {ct : List (List (Key × V))} (D : DbAt CD CS H p pl sp de dr ds ct) (k : Kept (foot p sp de dr ds) H H') : DbAt CD CS H' p pl sp de dr ds ct := by
  obtain ⟨dx, hp⟩ := D.ob
  have f : ∀ c, c ∈ foot p sp de dr ds → ∀ o, H c = some o → H' c = some o := k.ob
  refine ⟨D.sch.keep k.kt (f sp (by simp [foot])) (f de (by simp [foot])), ⟨dx, f p (by simp [foot]) _ hp⟩, f dr (by simp [foot]) _ D.rws, D.dl, D.cl, D.nd, D.apart, fun i d kvs h1 h2 => f d ?_ _ (D.at_ i d kvs h1 h2), fun i e kvs h1 h2 => (D.ok i e kvs h1 h2).mono k.kt⟩
  have := List.mem_of_getElem? h1
  simp [foot, this]
theorem DbAt.same {CD CS p sp de dr : Addr} {H H' : Hp} {pl : Plan} {ds : List Addr} {ct : List (List (Key × V))} (D : DbAt CD CS H p pl sp de dr ds ct) (e : Same H H') : DbAt CD CS H' p pl sp de dr ds ct := D.keep (Kept.of e)
end My
namespace My
open PySem L2
theorem rowsK_at : ∀ {pl : Plan} {ds : List Addr} {i : Nat} {k : Key} {v : V}, (rowsK pl ds)[i]? = some (k, v) → ∃ e d, pl[i]? = some e ∧ ds[i]? = some d ∧ k = Sum.inr e.1 ∧ v = .ref d
  | [], _, i, _, _, h => by
    unfold rowsK at h
    simp at h
  | _ :: _, [], i, _, _, h => by
    unfold rowsK at h
    simp at h
  | e0 :: pr, d0 :: dr, 0, k, v, h => by
    have h : ((Sum.inr e0.1 : Key), V.ref d0) = (k, v) := Option.some.inj h
    exact ⟨e0, d0, rfl, rfl, (congrArg Prod.fst h).symm, (congrArg Prod.snd h).symm⟩
  | e0 :: pr, d0 :: dr, i + 1, k, v, h => rowsK_at (i := i) (pl := pr) (ds := dr) h
theorem rowsK_len {pl : Plan} {ds : List Addr} (h : ds.length = pl.length) : (rowsK pl ds).length = pl.length := by
  unfold rowsK
  rw [List.length_zip, List.length_map, List.length_map]
  omega
theorem cells_td {H : Hp} : ∀ cs : List (Option Int), TdAll H (cs.map cellV) (cs.map cellD)
  | [] => .nil
  | c :: r => .cons (cellD_of c) (cells_td r)
structure HeldAt (H : Hp) (dh : Addr) (pl : Plan) (hs : List Addr) (ct : List (List (Key × V))) : Prop where
  rws : H dh = some (.dK (rowsK pl hs))
  dl : hs.length = pl.length
  cl : ct.length = pl.length
  nd : hs.Nodup
  apart : dh ∉ hs
  at_ : ∀ (i : Nat) (d : Addr) (kvs : List (Key × V)), hs[i]? = some d → ct[i]? = some kvs → H d = some (.dK kvs)
theorem HeldAt.keep {H H' : Hp} {dh : Addr} {pl : Plan} {hs : List Addr} {ct : List (List (Key × V))} (D : HeldAt H dh pl hs ct) (k : Kept (dh :: hs) H H') : HeldAt H' dh pl hs ct :=
  ⟨k.ob dh (by simp) _ D.rws, D.dl, D.cl, D.nd, D.apart, fun i d kvs h1 h2 => k.ob d (by simp [List.mem_of_getElem? h1]) _ (D.at_ i d kvs h1 h2)⟩
theorem HeldAt.same {H H' : Hp} {dh : Addr} {pl : Plan} {hs : List Addr} {ct : List (List (Key × V))} (D : HeldAt H dh pl hs ct) (e : Same H H') : HeldAt H' dh pl hs ct := D.keep (Kept.of e)
theorem ix_nd {ds : List Addr} (nd : ds.Nodup) {i j : Nat} {d : Addr} (h1 : ds[i]? = some d) (h2 : ds[j]? = some d) : i = j := by
  obtain ⟨l1, g1⟩ := List.getElem?_eq_some_iff.mp h1
  obtain ⟨l2, g2⟩ := List.getElem?_eq_some_iff.mp h2
  exact (List.getElem_inj nd).mp (g1.trans g2.symm)
theorem HeldAt.set {H : Hp} {dh d : Addr} {pl : Plan} {hs : List Addr} {ct : List (List (Key × V))} {i : Nat} {kvs : List (Key × V)} (D : HeldAt H dh pl hs ct) (hd : hs[i]? = some d) (kvs' : List (Key × V)) : HeldAt (upd H d (.dK kvs')) dh pl hs (ct.set i kvs') := by
  have n1 : dh ≠ d := fun z => D.apart (by rw [z]; exact List.mem_of_getElem? hd)
  refine ⟨by rw [upd_ne n1]; exact D.rws, D.dl, by rw [List.length_set]; exact D.cl, D.nd, D.apart, fun j d2 k2 h1 h2 => ?_⟩
  by_cases c : i = j
  · subst c
    rw [hd] at h1
    cases h1
    have hil : i < ct.length := by
      have := (List.getElem?_eq_some_iff.mp h2).1
      rw [List.length_set] at this
      exact this
    rw [List.getElem?_set_self hil] at h2
    cases h2
    exact upd_same
  · rw [List.getElem?_set_ne c] at h2
    have nd : d2 ≠ d := fun z => by
      subst z
      exact c (ix_nd D.nd hd h1)
    rw [upd_ne nd]
    exact D.at_ j d2 k2 h1 h2
structure Side where
  (p sp de dr : Addr)
  ds : List Addr
  dh : Addr
  hs : List Addr
def Side.fix (s : Side) : List Addr := [s.p, s.sp, s.de, s.dr, s.dh]
def Side.dicts (s : Side) : List Addr := s.ds ++ s.hs
structure SideAt (CD CS : Addr) (H : Hp) (pl : Plan) (s : Side) (ct : List (List (Key × V))) : Prop where
  db : DbAt CD CS H s.p pl s.sp s.de s.dr s.ds ct
  hd : HeldAt H s.dh pl s.hs ct
  nd : s.dicts.Nodup
  ap : ∀ d ∈ s.dicts, d ∉ s.fix
theorem SideAt.same {CD CS : Addr} {H H' : Hp} {pl : Plan} {s : Side} {ct : List (List (Key × V))} (S : SideAt CD CS H pl s ct) (e : Same H H') : SideAt CD CS H' pl s ct := ⟨S.db.same e, S.hd.same e, S.nd, S.ap⟩
theorem SideAt.frf {CD CS : Addr} {H H' : Hp} {pl : Plan} {s : Side} {ct : List (List (Key × V))} {F : List Addr} (S : SideAt CD CS H pl s ct) (e : FrF F H H') (nF : ∀ c ∈ F, ∀ xs, H c ≠ some (.tup xs)) (ap : ∀ c ∈ F, c ∉ s.fix ∧ c ∉ s.dicts) : SideAt CD CS H' pl s ct := by
  have k : ∀ G : List Addr, (∀ c ∈ G, c ∈ s.fix ∨ c ∈ s.dicts) → Kept G H H' := fun G hG => e.kept (fun c hc hF => by
    obtain ⟨a1, a2⟩ := ap c hF
    rcases hG c hc with h | h
    · exact a1 h
    · exact a2 h) nF
  refine ⟨S.db.keep (k _ fun c hc => ?_), S.hd.keep (k _ fun c hc => ?_), S.nd, S.ap⟩
  · simp only [foot, List.mem_cons] at hc
    simp only [Side.fix, Side.dicts, List.mem_cons, List.mem_append]
    rcases hc with h | h | h | h | h <;> simp [h]
  · simp only [List.mem_cons] at hc
    simp only [Side.fix, Side.dicts, List.mem_cons, List.mem_append]
    rcases hc with h | h <;> simp [h]
theorem SideAt.step {CD CS : Addr} {H H1 : Hp} {pl : Plan} {s : Side} {ct : List (List (Key × V))} {i : Nat} {d d2 : Addr} {kvs' : List (Key × V)} (S : SideAt CD CS H pl s ct) (hd : s.ds[i]? = some d) (hd2 : s.hs[i]? = some d2)
    (D1 : DbAt CD CS H1 s.p pl s.sp s.de s.dr s.ds (ct.set i kvs')) (e : Fr1 d H H1) : SideAt CD CS (upd H1 d2 (.dK kvs')) pl s (ct.set i kvs') := by
  have hdm : d ∈ s.ds := List.mem_of_getElem? hd
  have hdm2 : d2 ∈ s.hs := List.mem_of_getElem? hd2
  have dj := (List.nodup_append.mp S.nd).2.2
  have hi2 : i < ct.length := by rw [S.hd.cl, ← S.hd.dl]; exact (List.getElem?_eq_some_iff.mp hd2).1
  have h2 : H d2 = some (.dK ct[i]) := S.hd.at_ i d2 _ hd2 (List.getElem?_eq_getElem hi2)
  have hd0 : H d = some (.dK ct[i]) := S.db.at_ i d _ hd (List.getElem?_eq_getElem hi2)
  have n12 : d2 ≠ d := fun z => dj d hdm d2 hdm2 z.symm
  have h2' : H1 d2 = some (.dK ct[i]) := e d2 _ n12 h2
  have ap1 := S.ap d (List.mem_append.mpr (.inl hdm))
  have ap2 := S.ap d2 (List.mem_append.mpr (.inr hdm2))
  have kH : HeldAt H1 s.dh pl s.hs ct := S.hd.keep ⟨fun c hc o ho => e c o (fun z => by
    subst z
    rcases List.mem_cons.mp hc with h | h
    · exact ap1 (by simp [Side.fix, h])
    · exact dj c hdm c h rfl) ho, fun c xs hc => e c _ (ne_of hc hd0 (by intro z; cases z)) hc⟩
  refine ⟨D1.keep ⟨fun c hc o ho => ?_, fun c xs hc => ?_⟩, kH.set (kvs := kvs') hd2 kvs', S.nd, S.ap⟩
  · have : c ≠ d2 := fun z => by
      subst z
      simp only [foot, List.mem_cons] at hc
      rcases hc with h | h | h | h | h
      · exact ap2 (by simp [Side.fix, h])
      · exact ap2 (by simp [Side.fix, h])
      · exact ap2 (by simp [Side.fix, h])
      · exact ap2 (by simp [Side.fix, h])
      · exact dj c h c hdm2 rfl
    rw [upd_ne this]
    exact ho
  · rw [upd_ne (ne_of hc h2' (by intro z; cases z))]
    exact hc
end My
namespace My
open PySem L2
theorem putK_len (kvs : List (Key × V)) (k : Key) (v : V) : (putK kvs k v).length ≤ kvs.length + 1 := by
  unfold putK
  split
  · rw [List.length_map]
    omega
  · rw [List.length_append]
    exact Nat.le_refl _
theorem two_at {α : Type} (f : Nat → α) {k : Nat} (h : k < 2) : [f 0, f 1][k]? = some (f k) := by
  match k, h with
  | 0, _ => rfl
  | 1, _ => rfl
def Young (H : Hp) (ct : List (List (Key × V))) (m : Nat) : Prop := ∀ kvs ∈ ct, kvs.length ≤ m ∧ ∀ q ∈ kvs, ∃ lab cs, Td H q.2 (rowD lab cs) ∧ lab ≤ m
theorem Young.kt {H H' : Hp} {ct : List (List (Key × V))} {m : Nat} (y : Young H ct m) (kt : KT H H') : Young H' ct m := fun kvs hk => ⟨(y kvs hk).1, fun q hq => by
  obtain ⟨lab, cs, h1, h2⟩ := (y kvs hk).2 q hq
  exact ⟨lab, cs, h1.mono kt, h2⟩⟩
theorem Young.up {H : Hp} {ct : List (List (Key × V))} {m n : Nat} (y : Young H ct m) (l : m ≤ n) : Young H ct n := fun kvs hk => ⟨Nat.le_trans (y kvs hk).1 l, fun q hq => by
  obtain ⟨lab, cs, h1, h2⟩ := (y kvs hk).2 q hq
  exact ⟨lab, cs, h1, by omega⟩⟩
theorem Young.set {H : Hp} {ct : List (List (Key × V))} {m i : Nat} {kvs' : List (Key × V)} (y : Young H ct m) (h1 : kvs'.length ≤ m) (h2 : ∀ q ∈ kvs', ∃ lab cs, Td H q.2 (rowD lab cs) ∧ lab ≤ m) : Young H (ct.set i kvs') m := fun kvs hk => by
  rcases List.mem_or_eq_of_mem_set hk with h | rfl
  · exact y kvs h
  · exact ⟨h1, h2⟩
structure Two (CD CS : Addr) (H : Hp) (pl : Plan) (vp : V) (B HL : Addr) (S : Nat → Side) (C : Nat → List (List (Key × V))) (m : Nat) : Prop where
  pln : Td H vp (planD pl)
  bs : H B = some (.lst [.ref (S 0).p, .ref (S 1).p])
  hl : H HL = some (.lst [.ref (S 0).dh, .ref (S 1).dh])
  sd : ∀ k, k < 2 → SideAt CD CS H pl (S k) (C k)
  yg : ∀ k, k < 2 → Young H (C k) m
def Apart (S : Nat → Side) : Prop := ∀ k j, k < 2 → j < 2 → k ≠ j → ∀ c ∈ (S k).dicts, c ∉ (S j).fix ∧ c ∉ (S j).dicts
theorem Two.same {CD CS B HL : Addr} {H H' : Hp} {pl : Plan} {vp : V} {S : Nat → Side} {C : Nat → List (List (Key × V))} {m : Nat} (W : Two CD CS H pl vp B HL S C m) (e : Same H H') : Two CD CS H' pl vp B HL S C m :=
  ⟨W.pln.kt_same e, e _ _ W.bs, e _ _ W.hl, fun k hk => (W.sd k hk).same e, fun k hk => (W.yg k hk).kt (KT.of e)⟩
theorem Two.up {CD CS B HL : Addr} {H : Hp} {pl : Plan} {vp : V} {S : Nat → Side} {C : Nat → List (List (Key × V))} {m n : Nat} (W : Two CD CS H pl vp B HL S C m) (l : m ≤ n) : Two CD CS H pl vp B HL S C n :=
  ⟨W.pln, W.bs, W.hl, W.sd, fun k hk => (W.yg k hk).up l⟩
theorem SideAt.dict {CD CS : Addr} {H : Hp} {pl : Plan} {s : Side} {ct : List (List (Key × V))} (S : SideAt CD CS H pl s ct) {c : Addr} (hc : c ∈ s.dicts) : ∃ kvs, H c = some (.dK kvs) := by
  rcases List.mem_append.mp hc with h | h
  · obtain ⟨i, hi, ei⟩ := List.getElem_of_mem h
    have hi2 : i < ct.length := by rw [S.db.cl, ← S.db.dl]; exact hi
    exact ⟨_, S.db.at_ i c _ (by rw [List.getElem?_eq_getElem hi, ei]) (List.getElem?_eq_getElem hi2)⟩
  · obtain ⟨i, hi, ei⟩ := List.getElem_of_mem h
    have hi2 : i < ct.length := by rw [S.hd.cl, ← S.hd.dl]; exact hi
    exact ⟨_, S.hd.at_ i c _ (by rw [List.getElem?_eq_getElem hi, ei]) (List.getElem?_eq_getElem hi2)⟩
theorem Two.step {CD CS B HL : Addr} {H H1 : Hp} {pl : Plan} {vp : V} {S : Nat → Side} {C : Nat → List (List (Key × V))} {m k i : Nat} {d d2 : Addr} {kvs' : List (Key × V)} (W : Two CD CS H pl vp B HL S C m) (A : Apart S) (hk : k < 2) (hd : (S k).ds[i]? = some d) (hd2 : (S k).hs[i]? = some d2)
    (D1 : DbAt CD CS H1 (S k).p pl (S k).sp (S k).de (S k).dr (S k).ds ((C k).set i kvs')) (e : Fr1 d H H1) (l : kvs'.length ≤ m) (y : ∀ q ∈ kvs', ∃ lab cs, Td H q.2 (rowD lab cs) ∧ lab ≤ m) :
    FrF [d, d2] H (upd H1 d2 (.dK kvs')) ∧ Two CD CS (upd H1 d2 (.dK kvs')) pl vp B HL S (fun j => if j = k then (C k).set i kvs' else C j) m := by
  have hdm : d ∈ (S k).dicts := List.mem_append.mpr (.inl (List.mem_of_getElem? hd))
  have hdm2 : d2 ∈ (S k).dicts := List.mem_append.mpr (.inr (List.mem_of_getElem? hd2))
  obtain ⟨u1, hu1⟩ := (W.sd k hk).dict hdm
  obtain ⟨u2, hu2⟩ := (W.sd k hk).dict hdm2
  have f : FrF [d, d2] H (upd H1 d2 (.dK kvs')) := fun c o hc ho => by
    simp only [List.mem_cons, List.not_mem_nil, or_false, not_or] at hc
    rw [upd_ne hc.2]
    exact e c o hc.1 ho
  have nt : ∀ c ∈ [d, d2], ∀ xs, H c ≠ some (.tup xs) := fun c hc xs z => by
    simp only [List.mem_cons, List.not_mem_nil, or_false] at hc
    rcases hc with rfl | rfl
    · rw [hu1] at z
      cases z
    · rw [hu2] at z
      cases z
  have kt : KT H (upd H1 d2 (.dK kvs')) := (f.kept (G := []) (fun c hc => by cases hc) nt).kt
  have ls : ∀ (c : Addr) (xs : List V), H c = some (.lst xs) → upd H1 d2 (.dK kvs') c = some (.lst xs) := fun c xs h => f c _ (fun z => by
    simp only [List.mem_cons, List.not_mem_nil, or_false] at z
    rcases z with rfl | rfl
    · rw [hu1] at h
      cases h
    · rw [hu2] at h
      cases h) h
  refine ⟨f, W.pln.mono kt, ls _ _ W.bs, ls _ _ W.hl, fun j hj => ?_, fun j hj => ?_⟩
  · show SideAt CD CS _ pl (S j) (if j = k then _ else _)
    split
    · rename_i z
      subst z
      exact (W.sd j hj).step hd hd2 D1 e
    · rename_i z
      refine (W.sd j hj).frf f nt fun c hc => ?_
      simp only [List.mem_cons, List.not_mem_nil, or_false] at hc
      rcases hc with rfl | rfl
      · exact A k j hk hj (fun w => z w.symm) _ hdm
      · exact A k j hk hj (fun w => z w.symm) _ hdm2
  · show Young _ (if j = k then _ else _) m
    split
    · rename_i z
      subst z
      exact ((W.yg j hj).set l y).kt kt
    · exact (W.yg j hj).kt kt
end My
namespace My
open PySem L2
theorem DbAt.live {CD CS p sp de dr : Addr} {H : Hp} {pl : Plan} {ds : List Addr} {ct : List (List (Key × V))} (D : DbAt CD CS H p pl sp de dr ds ct) : ∀ c ∈ foot p sp de dr ds, H c ≠ none := by
  obtain ⟨dx, hp⟩ := D.ob
  obtain ⟨sdx, stv, skvs, s1, _, s3, _⟩ := D.sch.ex
  intro c hc z
  simp only [foot, List.mem_cons] at hc
  rcases hc with rfl | rfl | rfl | rfl | h
  · rw [hp] at z
    cases z
  · rw [s1] at z
    cases z
  · rw [s3] at z
    cases z
  · rw [D.rws] at z
    cases z
  · obtain ⟨i, hi, ei⟩ := List.getElem_of_mem h
    have hi2 : i < ct.length := by rw [D.cl, ← D.dl]; exact hi
    rw [D.at_ i c _ (by rw [List.getElem?_eq_getElem hi, ei]) (List.getElem?_eq_getElem hi2)] at z
    cases z
theorem SideAt.of {CD CS p sp de dr dh : Addr} {H G : Hp} {pl : Plan} {ds hs : List Addr} {ct : List (List (Key × V))} (D : DbAt CD CS H p pl sp de dr ds ct) (Hd : HeldAt H dh pl hs ct) (L : ∀ c ∈ foot p sp de dr ds, G c ≠ none) (n1 : G dh = none) (n2 : ∀ d ∈ hs, G d = none) :
    SideAt CD CS H pl ⟨p, sp, de, dr, ds, dh, hs⟩ ct := by
  obtain ⟨dx, hp⟩ := D.ob
  obtain ⟨sdx, stv, skvs, s1, _⟩ := D.sch.ex
  have inF : ∀ c ∈ ds, c ∈ foot p sp de dr ds := fun c hc => by simp [foot, hc]
  refine ⟨D, Hd, List.nodup_append.mpr ⟨D.nd, Hd.nd, fun x hx y hy e => ?_⟩, fun d hd => ?_⟩
  · subst e
    exact L x (inF x hx) (n2 x hy)
  · intro m
    simp only [Side.fix, List.mem_cons, List.not_mem_nil, or_false] at m
    rcases List.mem_append.mp hd with h | h
    · have hdk : ∃ u, H d = some (.dK u) := by
        obtain ⟨i, hi, ei⟩ := List.getElem_of_mem h
        have hi2 : i < ct.length := by rw [D.cl, ← D.dl]; exact hi
        exact ⟨_, D.at_ i d _ (by rw [List.getElem?_eq_getElem hi, ei]) (List.getElem?_eq_getElem hi2)⟩
      obtain ⟨u, hu⟩ := hdk
      rcases m with rfl | rfl | rfl | rfl | rfl
      · rw [hp] at hu
        cases hu
      · rw [s1] at hu
        cases hu
      · exact D.apart.2 h
      · exact D.apart.1 h
      · exact L _ (inF _ h) n1
    · rcases m with rfl | rfl | rfl | rfl | rfl
      · exact L _ (by simp [foot]) (n2 _ h)
      · exact L _ (by simp [foot]) (n2 _ h)
      · exact L _ (by simp [foot]) (n2 _ h)
      · exact L _ (by simp [foot]) (n2 _ h)
      · exact Hd.apart h
end My
namespace My
open PySem L2
theorem SideAt.fr1 {CD CS a : Addr} {H H' : Hp} {pl : Plan} {s : Side} {ct : List (List (Key × V))} {xs : List V} (S : SideAt CD CS H pl s ct) (h : H a = some (.lst xs)) (e : Fr1 a H H') : SideAt CD CS H' pl s ct := by
  refine S.frf (F := [a]) (fun c o hc ho => e c o (fun z => hc (by simp [z])) ho) (fun c hc ys z => ?_) fun c hc => ?_
  · rw [List.mem_singleton.mp hc, h] at z
    cases z
  · rw [List.mem_singleton.mp hc]
    refine ⟨fun m => ?_, fun m => ?_⟩
    · obtain ⟨dx, hp⟩ := S.db.ob
      obtain ⟨sdx, stv, skvs, s1, _, s3, _⟩ := S.db.sch.ex
      simp only [Side.fix, List.mem_cons, List.not_mem_nil, or_false] at m
      rcases m with rfl | rfl | rfl | rfl | rfl
      · rw [hp] at h
        cases h
      · rw [s1] at h
        cases h
      · rw [s3] at h
        cases h
      · rw [S.db.rws] at h
        cases h
      · rw [S.hd.rws] at h
        cases h
    · obtain ⟨u, hu⟩ := S.dict m
      rw [hu] at h
      cases h
theorem Two.fr1 {CD CS B HL a : Addr} {H H' : Hp} {pl : Plan} {vp : V} {S : Nat → Side} {C : Nat → List (List (Key × V))} {m : Nat} {xs : List V} (W : Two CD CS H pl vp B HL S C m) (h : H a = some (.lst xs)) (e : Fr1 a H H') (n1 : B ≠ a) (n2 : HL ≠ a) : Two CD CS H' pl vp B HL S C m :=
  ⟨W.pln.mono (e.kt h), e _ _ n1 W.bs, e _ _ n2 W.hl, fun k hk => (W.sd k hk).fr1 h e, fun k hk => (W.yg k hk).kt (e.kt h)⟩
end My
namespace My
open PySem PySem.Spec PyProof.Rows L2
section
variable {X : Cx} {k : Nat} {C : Addr} {sp : Sp} {m q : Str} {st : Stmt} {ps : List Str}
theorem run_fn1 {f : Addr} {fd : FuncData} {ps : List Str} {pins : List (Addr × Obj)} {σ : L2.St} {H : Hp} {s : Shared} {Q : VK} {us : List Value} {vs : List V} (F : FnOk X.prog X.w X.K X.mg X.base CX0 k f fd ps sp) (hr : Room (k + 1) X.A) (hb : Binds X.K fd ps [])
    (I : Inv X pins σ H s) (r : Vals vs us) (h : sp vs H Q E0) : wpAny (model X.prog X.w) X.A.in1 (call (.ref f) us) (EP X pins σ Q) X.xe s := by
  have hl : us.length = ps.length := by rw [← r.length]; exact F.len _ _ _ _ h
  have hbt := hb s us I.kIn (by simpa using hl)
  rw [List.append_nil] at hbt
  refine wpAny_call (codeAny_mono (F.run X.A.in1 X.stack s H ⟨us, []⟩ us vs Q E0 hr.in1 I.env0.in1 hbt r h) fun r s' hq => ?_)
  cases r with
  | error e => exact pass0 pins σ H s e s' I hq
  | ok fl =>
    cases fl with
    | ret u => exact I.after hq
    | next => exact False.elim hq
    | brk => exact False.elim hq
    | cont => exact False.elim hq
theorem MethAt.fnIn (D : MethAt X.K C m q st ps) {f : Addr} (hm : Meth X.K C m f) : PySem.W.fnIn X.K f = true := by
  obtain ⟨f', fd, F, hm', hb⟩ := D.ex
  have : f' = f := by
    have h1 := hm.at_
    rw [hm'.at_] at h1
    exact Value.ref.inj (Option.some.inj (Option.some.inj h1))
  subst this
  obtain ⟨oc, od, kV, doc, pm, an, cdv, ct, osl, rfl, lk, hcd⟩ := F.ex
  unfold PySem.W.fnIn
  rw [lk]
theorem pe_ixOwn {a b : Expr} {ta tb : TE} {pos : Pos} (ha : PE X a ta) (hb : PE X b tb) (G : MethOk X.prog X.w X.K X.mg X.base k C "__getitem__" sp) (D : MethAt X.K C "__getitem__" q st ps) (hr : Room (k + 1) X.A)
    (hs : ∀ o i, subscripted b true o i = runValue (.builtin "lifetime.subscript" ⟨[o, i], []⟩) := by intro _ _; rfl) : PE X (.Subscript a b pos) (tOp (rGetOwn C sp) ta tb) := by
  obtain ⟨f, fd, ps2, F, hm, hbd, c⟩ := G.ex
  refine ⟨fun pins s σ H Q I h => ?_⟩
  refine Subscript_ (binT ha hb I h fun v u s2 x y H2 I2 rx ry q => ?_)
  obtain ⟨p, dx, fs, rfl, hp, q⟩ := q
  obtain rfl : v = Value.ref p := rx
  obtain ⟨m, fr⟩ := I2.fr
  obtain ⟨mA, O, _⟩ := ins_get I2.hok hp
  obtain ⟨od, J, _⟩ := O.look
  exact PySem.W.sub_K fr I2.ok.mod.kin J hm.at_ (D.fnIn hm) hm.fn (run_fn1 (us := [.ref p, u]) (vs := [.ref p, y]) F hr hbd I2 (.cons rfl (.cons ry .nil)) q) (hs _ _)
def rLenOwn (C : Addr) (sp : Sp) : List V → Hp → VK → Prop := fun xs H Q => ∃ p dx fs, xs = [.ref p] ∧ H p = some (.ins C dx fs) ∧ sp [.ref p] H (fun v H2 => ∃ n : Int, v = .int n ∧ 0 ≤ n ∧ n < 2 ^ 63 ∧ Q (.int n) H2) E0
theorem call_lenOwn (G : MethOk X.prog X.w X.K X.mg X.base k C "__len__" sp) (hr : Room (k + 1) X.A) : CallR X (.builtin "len") (rLenOwn C sp) := by
  obtain ⟨f, fd, ps2, F, hm, hbd, c⟩ := G.ex
  intro pins s0 σ H0 xs us Q I0 r0 h0
  obtain ⟨p, dx, fs, rfl, hp, h0⟩ := h0
  obtain ⟨u, rfl, rx⟩ := vals1 r0
  obtain rfl : u = Value.ref p := rx
  obtain ⟨m, fr⟩ := I0.fr
  obtain ⟨mA, O, _⟩ := ins_get I0.hok hp
  obtain ⟨od, J, _⟩ := O.look
  refine PySem.W.len_K fr I0.ok.mod.kin J hm.at_ hm.fn (thn (run_fn1 (us := [.ref p]) (vs := [.ref p]) F hr hbd I0 (.cons rfl .nil) h0) fun v s1 ⟨z, H1, I1, r1, n, ez, n0, n1, q⟩ => ?_)
  subst ez
  obtain ⟨t, rfl⟩ := r1
  exact ⟨⟨n0, n1⟩, ⟨.int n, H1, I1.tok _, ⟨_, rfl⟩, q⟩⟩
end
end My
namespace My
open PySem L2
def lockN : Nat → TE → TE
  | 0, t => t
  | n + 1, t => tLockE (lockN n t)
def tLocks (t : TE) : TE := fun σ H Q => ∃ n, lockN n t σ H Q
theorem pe_locks {X : Cx} {e : Expr} {t : TE} (h : PE X e t) : PE X e (tLocks t) := by
  have go : ∀ n, PE X e (lockN n t) := fun n => by
    induction n with
    | zero => exact h
    | succ n ih => exact pe_lock ih
  exact ⟨fun pins s σ H Q I ⟨n, hn⟩ => (go n).run pins s σ H Q I hn⟩
theorem lockN_of {t : TE} {σ : L2.St} : ∀ (L : List (Addr × List (Key × V))) (H : Hp) (Q : VK), (L.map (·.1)).Nodup → (∀ p ∈ L, H p.1 = some (.dK p.2)) →
    (∀ (G : Hp) (R : VK), (∀ p ∈ L, ∃ od, G p.1 = some (.frz od (.dK p.2))) → (∀ c, c ∉ L.map (·.1) → G c = H c) →
      (∀ v H', (∀ p ∈ L, H' p.1 = G p.1) → (∀ H'', (∀ p ∈ L, H'' p.1 = some (.dK p.2)) → (∀ c, c ∉ L.map (·.1) → H'' c = H' c) → Q v H'') → R v H') → t σ G R) → lockN L.length t σ H Q
  | [], H, Q, _, _, h => h H Q (by simp) (fun _ _ => rfl) fun v H' _ k => k H' (by simp) fun _ _ => rfl
  | (d, kvs) :: L, H, Q, nd, hd, h => by
    rw [List.map_cons] at nd
    obtain ⟨n1, n2⟩ := List.nodup_cons.mp nd
    have ne : ∀ p ∈ L, p.1 ≠ d := fun p hp z => n1 (by rw [← z]; exact List.mem_map.mpr ⟨p, hp, rfl⟩)
    refine ⟨d, .dK kvs, hd _ List.mem_cons_self, trivial, fun od => lockN_of L _ _ n2 (fun p hp => by rw [upd_ne (ne p hp)]; exact hd p (List.mem_cons_of_mem _ hp)) fun G R hG hGc hR => ?_⟩
    have hGd : G d = some (.frz od (.dK kvs)) := by rw [hGc d n1, upd_same]
    refine h G R (fun p hp => ?_) (fun c hc => ?_) fun v H' e k => hR v H' (fun p hp => e p (List.mem_cons_of_mem _ hp)) fun H'' r1 r2 => ⟨?_, k _ (fun p hp => ?_) fun c hc => ?_⟩
    · rcases List.mem_cons.mp hp with rfl | hp
      · exact ⟨od, hGd⟩
      · exact hG p hp
    · rw [List.map_cons, List.mem_cons, not_or] at hc
      rw [hGc c hc.2, upd_ne hc.1]
    · rw [r2 d n1, e (d, kvs) List.mem_cons_self, hGd]
    · rcases List.mem_cons.mp hp with rfl | hp
      · exact upd_same
      · rw [upd_ne (ne p hp)]
        exact r1 p hp
    · rw [List.map_cons, List.mem_cons, not_or] at hc
      rw [upd_ne hc.1]
      exact r2 c hc.2
section
variable {g g1 : TG} {tt tt1 : TT} {te : TE} {vs vs1 : List Nat} {σ σ2 : L2.St} {wi1 : TI}
theorem in2_keys {d : Addr} {o : Obj} {kvs : List (Key × V)} {D : Addr} {Nx : Hp → Prop} {H4 : Hp} (Pv : Nat → Hp → Prop) (h0 : Pv 0 H4) (hl : ∀ j Hj, j ≤ kvs.length → Pv j Hj → Hj d = some (.frz o (.dK kvs)))
    (hs : ∀ j k v Hj, kvs[j]? = some (k, v) → Pv j Hj → g1 (kV k) (wipe σ2 vs1) Hj fun σ3 H5 => wipe σ3 vs1 = wipe σ2 vs1 ∧ tt1 σ3 H5 fun b H6 =>
      if b = true then te σ3 H6 fun y H7 => ∃ acc, H7 D = some (.lst acc) ∧ acc.length < sizeLine ∧ Pv (j + 1) (upd H7 D (.lst (acc ++ [y]))) else Pv (j + 1) H6)
    (hd : ∀ Hj, Pv kvs.length Hj → Nx Hj) : In2 (Itk d o kvs) g1 tt1 te vs1 σ2 D Nx H4 := by
  refine ⟨fun j m Hj => m = kvs.length - j ∧ j ≤ kvs.length ∧ Pv j Hj, ⟨_, rfl, Nat.zero_le _, h0⟩, ?_⟩
  rintro j m Hj ⟨em, hj, p⟩
  have q := hl j Hj hj p
  by_cases l : j < kvs.length
  · refine Or.inr ⟨⟨q, l⟩, Pv (j + 1), fun H' p' => ⟨_, by omega, rfl, l, p'⟩, ?_⟩
    rintro x H' ⟨eh, k, v, hk, rfl⟩
    rw [eh]
    exact hs j k v Hj hk p
  · obtain rfl : j = kvs.length := by omega
    exact Or.inl ⟨⟨q, Nat.le_refl _⟩, hd Hj p⟩
theorem lc2_keys {d : Addr} {o : Obj} {kvs : List (Key × V)} {D : Addr} {Qd : Hp → Prop} {H1 : Hp} (Pv : Nat → Hp → Prop) (h0 : Pv 0 (upd H1 D (.lst []))) (hl : ∀ i Hi, i ≤ kvs.length → Pv i Hi → Hi d = some (.frz o (.dK kvs)))
    (hs : ∀ i k v Hi, kvs[i]? = some (k, v) → Pv i Hi → g (kV k) (wipe σ vs) Hi fun σ2 H2 => wipe σ2 vs = wipe σ vs ∧ tt σ2 H2 fun b H3 =>
      if b = true then wi1 σ2 H3 fun J1 H4 => In2 J1 g1 tt1 te vs1 σ2 D (Pv (i + 1)) H4 else Pv (i + 1) H3)
    (hd : ∀ Hi, Pv kvs.length Hi → Qd Hi) :
    ∃ W : Nat → Nat → Hp → Prop, (∃ m, W 0 m (upd H1 D (.lst []))) ∧ ∀ i m H, W i m H →
      ((Itk d o kvs).stop i H ∧ Qd H) ∨ ((Itk d o kvs).go i H ∧ ∃ Nx : Hp → Prop, (∀ H', Nx H' → ∃ m', m' < m ∧ W (i + 1) m' H') ∧ ∀ x H', (Itk d o kvs).yld i H x H' → g x (wipe σ vs) H' fun σ2 H2 => wipe σ2 vs = wipe σ vs ∧ tt σ2 H2 fun b H3 =>
        if b = true then wi1 σ2 H3 fun J1 H4 => In2 J1 g1 tt1 te vs1 σ2 D Nx H4 else Nx H3) := by
  refine ⟨fun i m Hi => m = kvs.length - i ∧ i ≤ kvs.length ∧ Pv i Hi, ⟨_, rfl, Nat.zero_le _, h0⟩, ?_⟩
  rintro i m Hi ⟨em, hi, p⟩
  have q := hl i Hi hi p
  by_cases l : i < kvs.length
  · refine Or.inr ⟨⟨q, l⟩, Pv (i + 1), fun H' p' => ⟨_, by omega, rfl, l, p'⟩, ?_⟩
    rintro x H' ⟨eh, k, v, hk, rfl⟩
    rw [eh]
    exact hs i k v Hi hk p
  · obtain rfl : i = kvs.length := by omega
    exact Or.inl ⟨⟨q, Nat.le_refl _⟩, hd Hi p⟩
end
theorem sorted_one : ∀ {l m : List Int}, l.Perm m → l.Pairwise (· ≤ ·) → m.Pairwise (· ≤ ·) → l = m
  | [], m, p, _, _ => p.nil_eq
  | x :: l, [], p, _, _ => absurd p.length_eq (by simp)
  | x :: l, y :: m, p, hl, hm => by
    rw [List.pairwise_cons] at hl hm
    have h1 : x ≤ y := by
      rcases List.mem_cons.mp (p.symm.subset List.mem_cons_self) with h | h
      · omega
      · exact hl.1 y h
    have h2 : y ≤ x := by
      rcases List.mem_cons.mp (p.subset List.mem_cons_self) with h | h
      · omega
      · exact hm.1 x h
    have e : x = y := by omega
    subst e
    rw [sorted_one ((List.perm_cons x).mp p) hl.2 hm.2]
end My
namespace My
open PySem L2
structure Many (n : Nat) (CD CS : Addr) (H : Hp) (PL : Nat → Plan) (S : Nat → Side) (C : Nat → List (List (Key × V))) (m : Nat) : Prop where
  sd : ∀ k, k < n → SideAt CD CS H (PL k) (S k) (C k)
  ln : ∀ k, k < n → ∀ kvs ∈ C k, kvs.length ≤ m
def ApartN (n : Nat) (S : Nat → Side) : Prop := ∀ k j, k < n → j < n → k ≠ j → ∀ c ∈ (S k).dicts, c ∉ (S j).fix ∧ c ∉ (S j).dicts
section
variable {n : Nat} {CD CS : Addr} {H H' : Hp} {PL : Nat → Plan} {S : Nat → Side} {C : Nat → List (List (Key × V))} {m : Nat}
theorem Many.same (W : Many n CD CS H PL S C m) (e : Same H H') : Many n CD CS H' PL S C m := ⟨fun k hk => (W.sd k hk).same e, W.ln⟩
theorem Many.up {m' : Nat} (W : Many n CD CS H PL S C m) (l : m ≤ m') : Many n CD CS H PL S C m' := ⟨W.sd, fun k hk kvs h => Nat.le_trans (W.ln k hk kvs h) l⟩
theorem Many.fr1 {a : Addr} {xs : List V} (W : Many n CD CS H PL S C m) (h : H a = some (.lst xs)) (e : Fr1 a H H') : Many n CD CS H' PL S C m := ⟨fun k hk => (W.sd k hk).fr1 h e, W.ln⟩
theorem Many.step {H1 : Hp} {k i : Nat} {d d2 : Addr} {kvs' : List (Key × V)} (W : Many n CD CS H PL S C m) (A : ApartN n S) (hk : k < n) (hd : (S k).ds[i]? = some d) (hd2 : (S k).hs[i]? = some d2)
    (D1 : DbAt CD CS H1 (S k).p (PL k) (S k).sp (S k).de (S k).dr (S k).ds ((C k).set i kvs')) (e : Fr1 d H H1) (l : kvs'.length ≤ m) :
    FrF [d, d2] H (upd H1 d2 (.dK kvs')) ∧ KT H (upd H1 d2 (.dK kvs')) ∧ (∀ (c : Addr) (xs : List V), H c = some (.lst xs) → upd H1 d2 (.dK kvs') c = some (.lst xs)) ∧ Many n CD CS (upd H1 d2 (.dK kvs')) PL S (fun j => if j = k then (C k).set i kvs' else C j) m := by
  have hdm : d ∈ (S k).dicts := List.mem_append.mpr (.inl (List.mem_of_getElem? hd))
  have hdm2 : d2 ∈ (S k).dicts := List.mem_append.mpr (.inr (List.mem_of_getElem? hd2))
  obtain ⟨u1, hu1⟩ := (W.sd k hk).dict hdm
  obtain ⟨u2, hu2⟩ := (W.sd k hk).dict hdm2
  have f : FrF [d, d2] H (upd H1 d2 (.dK kvs')) := fun c o hc ho => by
    simp only [List.mem_cons, List.not_mem_nil, or_false, not_or] at hc
    rw [upd_ne hc.2]
    exact e c o hc.1 ho
  have nt : ∀ c ∈ [d, d2], ∀ xs, H c ≠ some (.tup xs) := fun c hc xs z => by
    simp only [List.mem_cons, List.not_mem_nil, or_false] at hc
    rcases hc with rfl | rfl
    · rw [hu1] at z
      cases z
    · rw [hu2] at z
      cases z
  have kt : KT H (upd H1 d2 (.dK kvs')) := (f.kept (G := []) (fun c hc => by cases hc) nt).kt
  have ls : ∀ (c : Addr) (xs : List V), H c = some (.lst xs) → upd H1 d2 (.dK kvs') c = some (.lst xs) := fun c xs h => f c _ (fun z => by
    simp only [List.mem_cons, List.not_mem_nil, or_false] at z
    rcases z with rfl | rfl
    · rw [hu1] at h
      cases h
    · rw [hu2] at h
      cases h) h
  refine ⟨f, kt, ls, fun j hj => ?_, fun j hj => ?_⟩
  · show SideAt CD CS _ (PL j) (S j) (if j = k then _ else _)
    split
    · rename_i z
      subst z
      exact (W.sd j hj).step hd hd2 D1 e
    · rename_i z
      refine (W.sd j hj).frf f nt fun c hc => ?_
      simp only [List.mem_cons, List.not_mem_nil, or_false] at hc
      rcases hc with rfl | rfl
      · exact A k j hk hj (fun w => z w.symm) _ hdm
      · exact A k j hk hj (fun w => z w.symm) _ hdm2
  · show ∀ kvs ∈ (if j = k then _ else _), _
    split
    · rename_i z
      subst z
      intro kvs hv
      rcases List.mem_or_eq_of_mem_set hv with h | rfl
      · exact W.ln j hj kvs h
      · exact l
    · exact W.ln j hj
end
def nils (pl : Plan) : List (List (Key × V)) := pl.map fun _ => []
theorem nils_at {pl : Plan} {i : Nat} {kvs : List (Key × V)} (h : (nils pl)[i]? = some kvs) : kvs = [] := by
  unfold nils at h
  rw [List.getElem?_map] at h
  obtain ⟨_, _, e⟩ := Option.map_eq_some_iff.mp h
  exact e.symm
theorem nils_mem {pl : Plan} {kvs : List (Key × V)} (h : kvs ∈ nils pl) : kvs = [] := by
  obtain ⟨_, _, rfl⟩ := List.mem_map.mp h
  rfl
structure Fill (H0 : Hp) (A : Addr) (pl : Plan) (j : Nat) (hs : List Addr) (H : Hp) : Prop where
  le : j ≤ pl.length
  hl : hs.length = j
  nd : hs.Nodup
  ds : ∀ d ∈ hs, H0 d = none ∧ d ≠ A ∧ H d = some (.dK [])
  at_ : H A = some (.dK (rowsK (pl.take j) hs))
  fr : Fr1 A H0 H
theorem Fill.start {H0 : Hp} {A : Addr} (pl : Plan) (h : H0 A = some (.dK [])) : Fill H0 A pl 0 [] H0 := ⟨Nat.zero_le _, rfl, List.nodup_nil, by simp, h, Fr1.refl _ _⟩
theorem Fill.no {H0 H : Hp} {A : Addr} {pl : Plan} {j : Nat} {hs : List Addr} (F : Fill H0 A pl j hs H) (nd : (pl.map (·.1)).Nodup) {en : Ent} (hen : pl[j]? = some en) : valV (rowsK (pl.take j) hs) (Sum.inr en.1 : Key) = none := by
  have hjp : j < pl.length := (List.getElem?_eq_some_iff.mp hen).1
  refine valV_no (rowsK_keys (by rw [List.length_take, F.hl]; omega)) fun hm => ?_
  obtain ⟨e2, he2, ee⟩ := List.mem_map.mp hm
  obtain ⟨m, hm2, em⟩ := List.getElem_of_mem he2
  rw [List.getElem_take] at em
  have hmj : m < j := by
    rw [List.length_take] at hm2
    omega
  obtain ⟨l2, g2⟩ := List.getElem?_eq_some_iff.mp hen
  have a1 : (pl.map (·.1))[m]'(by rw [List.length_map]; omega) = (pl.map (·.1))[j]'(by rw [List.length_map]; omega) := by
    rw [List.getElem_map, List.getElem_map, g2, em, ee]
  have := (List.getElem_inj nd).mp a1
  omega
theorem Fill.next {H0 H : Hp} {A d : Addr} {pl : Plan} {j : Nat} {hs : List Addr} (F : Fill H0 A pl j hs H) (nd : (pl.map (·.1)).Nodup) {en : Ent} (hen : pl[j]? = some en) (hd : H d = none) :
    upd H d (.dK []) A = some (.dK (rowsK (pl.take j) hs)) ∧ (rowsK (pl.take j) hs).length ≤ j ∧ Fill H0 A pl (j + 1) (hs ++ [d]) (upd (upd H d (.dK [])) A (.dK (putK (rowsK (pl.take j) hs) (Sum.inr en.1) (.ref d)))) := by
  have hjp : j < pl.length := (List.getElem?_eq_some_iff.mp hen).1
  have hen2 : pl[j] = en := (List.getElem?_eq_some_iff.mp hen).2
  have ndA : d ≠ A := fun z => by
    rw [z, F.at_] at hd
    cases hd
  have hdi : H0 d = none := F.fr.free ndA hd
  have hno := F.no nd hen
  have hl := F.hl
  refine ⟨by rw [upd_ne ndA.symm]; exact F.at_, ?_, hjp, by simp [F.hl], nd_snoc F.nd fun m => ?_, fun c hc => ?_, ?_, ?_⟩
  · unfold rowsK
    rw [List.length_zip, List.length_map, List.length_map, List.length_take]
    omega
  · have := (F.ds d m).2.2
    rw [hd] at this
    cases this
  · rcases List.mem_append.mp hc with m | m
    · obtain ⟨a1, a2, a3⟩ := F.ds c m
      exact ⟨a1, a2, by rw [upd_ne a2, upd_ne (fun z => by rw [z, hd] at a3; cases a3)]; exact a3⟩
    · rw [List.mem_singleton.mp m]
      exact ⟨hdi, ndA, by rw [upd_ne ndA, upd_same]⟩
  · rw [upd_same, putK_new _ hno]
    refine congrArg (fun l => some (HO.dK l)) ?_
    unfold rowsK
    rw [List.take_succ_eq_append_getElem hjp, List.map_append, List.map_append, List.zip_append (by rw [List.length_map, List.length_map, List.length_take]; omega), hen2]
    rfl
  · exact (F.fr.upd hdi).at
theorem Fill.held {H0 H : Hp} {A : Addr} {pl : Plan} {j : Nat} {hs : List Addr} (F : Fill H0 A pl j hs H) (h : j = pl.length) : HeldAt H A pl hs (nils pl) := by
  subst h
  refine ⟨by have := F.at_; rw [List.take_length] at this; exact this, F.hl, by unfold nils; rw [List.length_map], F.nd, fun m => (F.ds A m).2.1 rfl, fun j d kvs h1 h2 => ?_⟩
  rw [nils_at h2]
  exact (F.ds d (List.mem_of_getElem? h1)).2.2
end My
namespace My
open PySem L2
def ft (s : Side) : List Addr := foot s.p s.sp s.de s.dr s.ds
theorem pair_fn {α : Type} (x y : α) : ∃ f : Nat → α, f 0 = x ∧ f 1 = y := ⟨fun k => match k with | 0 => x | _ => y, rfl, rfl⟩
section
variable {CD CS : Addr} {G H H' Hb : Hp} {PL : Nat → Plan} {S : Nat → Side} {i n : Nat} {A : Nat → Addr} {hs : Nat → List Addr}
theorem DbAt.fr1 {p sp de dr a : Addr} {pl : Plan} {ds : List Addr} {ct : List (List (Key × V))} {xs : List V} (D : DbAt CD CS H p pl sp de dr ds ct) (h : H a = some (.lst xs)) (e : Fr1 a H H') : DbAt CD CS H' p pl sp de dr ds ct := by
  refine D.keep ⟨fun c hc o ho => e c o (fun z => ?_) ho, e.kt h⟩
  subst z
  obtain ⟨dx, hp⟩ := D.ob
  obtain ⟨sdx, stv, skvs, s1, _, s3, _⟩ := D.sch.ex
  simp only [foot, List.mem_cons] at hc
  rcases hc with rfl | rfl | rfl | rfl | hc
  · rw [hp] at h
    cases h
  · rw [s1] at h
    cases h
  · rw [s3] at h
    cases h
  · rw [D.rws] at h
    cases h
  · obtain ⟨j, hj, ej⟩ := List.getElem_of_mem hc
    have hj2 : j < ct.length := by rw [D.cl, ← D.dl]; exact hj
    rw [D.at_ j c _ (by rw [List.getElem?_eq_getElem hj, ej]) (List.getElem?_eq_getElem hj2)] at h
    cases h
structure Bases (i : Nat) (CD CS : Addr) (H : Hp) (PL : Nat → Plan) (S : Nat → Side) : Prop where
  db : ∀ k, k < i → DbAt CD CS H (S k).p (PL k) (S k).sp (S k).de (S k).dr (S k).ds (nils (PL k))
  ap : ∀ k j, k < i → j < i → k ≠ j → ∀ c ∈ ft (S k), c ∉ ft (S j)
theorem Bases.zero : Bases 0 CD CS H PL S := ⟨fun k h => absurd h (Nat.not_lt_zero _), fun k j h => absurd h (Nat.not_lt_zero _)⟩
theorem Bases.same (B : Bases i CD CS H PL S) (e : Same H H') : Bases i CD CS H' PL S := ⟨fun k h => (B.db k h).same e, B.ap⟩
theorem Bases.fr1 {a : Addr} {xs : List V} (B : Bases i CD CS H PL S) (h : H a = some (.lst xs)) (e : Fr1 a H H') : Bases i CD CS H' PL S := ⟨fun k hk => (B.db k hk).fr1 h e, B.ap⟩
def addS (S : Nat → Side) (i : Nat) (s : Side) : Nat → Side := fun k => if k = i then s else S k
theorem addS_at (S : Nat → Side) (i : Nat) (s : Side) : addS S i s i = s := if_pos rfl
theorem addS_ne (S : Nat → Side) (i : Nat) (s : Side) {k : Nat} (h : k ≠ i) : addS S i s k = S k := if_neg h
theorem Bases.add (B : Bases i CD CS H PL S) (e : Same H H') {s : Side} (D : DbAt CD CS H' s.p (PL i) s.sp s.de s.dr s.ds (nils (PL i))) (f : ∀ c ∈ ft s, H c = none) : Bases (i + 1) CD CS H' PL (addS S i s) := by
  refine ⟨fun k hk => ?_, fun k j hk hj hkj c hc hm => ?_⟩
  · by_cases z : k = i
    · subst z
      rw [addS_at]
      exact D
    · rw [addS_ne _ _ _ z]
      exact (B.db k (by omega)).same e
  · by_cases z : k = i
    · subst z
      rw [addS_at] at hc
      rw [addS_ne _ _ _ (fun w => hkj w.symm)] at hm
      exact (B.db j (by omega)).live c hm (f c hc)
    · rw [addS_ne _ _ _ z] at hc
      by_cases w : j = i
      · subst w
        rw [addS_at] at hm
        exact (B.db k (by omega)).live c hc (f c hm)
      · rw [addS_ne _ _ _ w] at hm
        exact B.ap k j (by omega) (by omega) hkj c hc hm
structure Helds (i n : Nat) (Hb H : Hp) (PL : Nat → Plan) (A : Nat → Addr) (hs : Nat → List Addr) : Prop where
  hd : ∀ k, k < i → HeldAt H (A k) (PL k) (hs k) (nils (PL k))
  rest : ∀ k, i ≤ k → k < n → H (A k) = some (.dK [])
  free : ∀ k, k < i → ∀ d ∈ hs k, Hb d = none
  dj : ∀ k j, k < i → j < i → k ≠ j → ∀ d ∈ hs k, d ∉ hs j
  fr : ∀ c o, (∀ k, k < n → c ≠ A k) → Hb c = some o → H c = some o
theorem Helds.start (h : ∀ k, k < n → Hb (A k) = some (.dK [])) : Helds 0 n Hb Hb PL A hs := ⟨fun k hk => absurd hk (Nat.not_lt_zero _), fun k _ hk => h k hk, fun k hk => absurd hk (Nat.not_lt_zero _), fun k j hk => absurd hk (Nat.not_lt_zero _), fun _ _ _ h => h⟩
theorem HeldAt.live {dh : Addr} {pl : Plan} {l : List Addr} {ct : List (List (Key × V))} (D : HeldAt H dh pl l ct) : ∀ c ∈ dh :: l, ∃ u, H c = some (.dK u) := fun c hc => by
  rcases List.mem_cons.mp hc with rfl | h
  · exact ⟨_, D.rws⟩
  · obtain ⟨m, hm, em⟩ := List.getElem_of_mem h
    have hm2 : m < ct.length := by rw [D.cl, ← D.dl]; exact hm
    exact ⟨_, D.at_ m c _ (by rw [List.getElem?_eq_getElem hm, em]) (List.getElem?_eq_getElem hm2)⟩
theorem Helds.add (Q : Helds i n Hb H PL A hs) (hb : ∀ k, k < n → Hb (A k) = some (.dK [])) (hA : ∀ k j, k < n → j < n → k ≠ j → A k ≠ A j) (hi : i < n) {l : List Addr} {j0 : Nat} (F : Fill H (A i) (PL i) j0 l H') (hj : j0 = (PL i).length) : Helds (i + 1) n Hb H' PL A (fun k => if k = i then l else hs k) := by
  have hAi : H (A i) = some (.dK []) := Q.rest i (Nat.le_refl _) hi
  have kt : KT H H' := fun c ys hc => F.fr c _ (ne_of hc hAi (by intro z; cases z)) hc
  have HA := F.held hj
  have nin : ∀ k, k < i → A i ∉ A k :: hs k := fun k hk m => by
    rcases List.mem_cons.mp m with h | h
    · exact hA i k hi (by omega) (by omega) h
    · have h2 := Q.free k hk _ h
      rw [hb i hi] at h2
      cases h2
  have frH : ∀ k, k < i → ∀ c ∈ A k :: hs k, H c ≠ none := fun k hk c hc z => by
    obtain ⟨u, hu⟩ := (Q.hd k hk).live c hc
    rw [hu] at z
    cases z
  have lb : ∀ d ∈ l, Hb d = none := fun d hd => by
    cases q : Hb d with
    | none => rfl
    | some o =>
      have h1 := (F.ds d hd).1
      have : ∀ k, k < n → d ≠ A k := fun k hk z => by
        subst z
        by_cases w : k < i
        · exact frH k w _ List.mem_cons_self h1
        · rw [Q.rest k (by omega) hk] at h1
          cases h1
      rw [Q.fr d o this q] at h1
      cases h1
  refine ⟨fun k hk => ?_, fun k hk hkn => ?_, fun k hk d hd => ?_, fun k j hk hj hkj d hd hm => ?_, fun c o hc ho => ?_⟩
  · by_cases z : k = i
    · subst z
      rw [if_pos rfl]
      exact HA
    · rw [if_neg z]
      exact (Q.hd k (by omega)).keep ⟨fun c hc o ho => F.fr c o (fun w => nin k (by omega) (by rw [← w]; exact hc)) ho, kt⟩
  · exact F.fr _ _ (hA k i hkn hi (by omega)) (Q.rest k (by omega) hkn)
  · by_cases z : k = i
    · subst z
      rw [if_pos rfl] at hd
      exact lb d hd
    · rw [if_neg z] at hd
      exact Q.free k (by omega) d hd
  · by_cases z : k = i
    · subst z
      rw [if_pos rfl] at hd
      rw [if_neg (fun w => hkj w.symm)] at hm
      exact frH j (by omega) d (List.mem_cons_of_mem _ hm) (F.ds d hd).1
    · rw [if_neg z] at hd
      by_cases w : j = i
      · subst w
        rw [if_pos rfl] at hm
        exact frH k (by omega) d (List.mem_cons_of_mem _ hd) (F.ds d hm).1
      · rw [if_neg w] at hm
        exact Q.dj k j (by omega) (by omega) hkj d hd hm
  · exact F.fr c o (hc i hi) (Q.fr c o hc ho)
def sides (S : Nat → Side) (A : Nat → Addr) (hs : Nat → List Addr) : Nat → Side := fun k => ⟨(S k).p, (S k).sp, (S k).de, (S k).dr, (S k).ds, A k, hs k⟩
theorem sides_of (B : Bases n CD CS G PL S) (eG : Same G Hb) (e : Same G H) (Q : Helds n n Hb H PL A hs) (nA : ∀ k, k < n → G (A k) = none) (hb : ∀ k, k < n → Hb (A k) = some (.dK [])) :
    Many n CD CS H PL (sides S A hs) (fun k => nils (PL k)) 0 ∧ ApartN n (sides S A hs) ∧ ∀ k, k < n → A k ∉ ft (S k) := by
  have gh : ∀ k, k < n → ∀ d ∈ hs k, G d = none := fun k hk d hd => eG.free (Q.free k hk d hd)
  refine ⟨⟨fun k hk => SideAt.of (((B.db k hk).same e)) (Q.hd k hk) (B.db k hk).live (nA k hk) (gh k hk), fun k hk kvs h => by rw [nils_mem h]; exact Nat.le_refl _⟩, fun k j hk hj hkj c hc => ?_, fun k hk m => (B.db k hk).live _ m (nA k hk)⟩
  have inF : ∀ k c, c ∈ (S k).ds → c ∈ ft (S k) := fun k c h => by simp [ft, foot, h]
  have inX : ∀ c, c ∈ (sides S A hs j).fix → c ∈ ft (S j) ∨ c = A j := fun c h => by
    simp only [sides, Side.fix, List.mem_cons, List.not_mem_nil, or_false] at h
    rcases h with rfl | rfl | rfl | rfl | rfl
    · exact .inl (by simp [ft, foot])
    · exact .inl (by simp [ft, foot])
    · exact .inl (by simp [ft, foot])
    · exact .inl (by simp [ft, foot])
    · exact .inr rfl
  rcases List.mem_append.mp hc with h | h
  · have h : c ∈ (S k).ds := h
    have lv := (B.db k hk).live c (inF k c h)
    refine ⟨fun m => ?_, fun m => ?_⟩
    · rcases inX c m with g | rfl
      · exact B.ap k j hk hj hkj c (inF k c h) g
      · exact lv (nA j hj)
    · rcases List.mem_append.mp m with g | g
      · exact B.ap k j hk hj hkj c (inF k c h) (inF j c g)
      · exact lv (gh j hj c g)
  · have h : c ∈ hs k := h
    refine ⟨fun m => ?_, fun m => ?_⟩
    · rcases inX c m with g | rfl
      · exact (B.db j hj).live c g (gh k hk c h)
      · have := Q.free k hk _ h
        rw [hb j hj] at this
        cases this
    · rcases List.mem_append.mp m with g | g
      · exact (B.db j hj).live c (inF j c g) (gh k hk c h)
      · exact Q.dj k j hk hj hkj c h g
end
end My
namespace My
open PySem PySem.Spec PyProof.Rows L2
structure InitOk (P : Program) (w : World) (K : PySem.W.Frag) (mg : Str → Option Value) (base : Heap) (k : Nat) (C : Addr) (x : Str) (sp : Sp) : Prop where
  ex : ∃ f fd ps mc, FnOk P w K mg base CX0 k f fd ps sp ∧ PySem.W.keepIn K (.ref f) = true ∧ Binds K fd ps [] ∧ mg x = some (.ref C) ∧ ClX.CRead K C mc ∧ ClX.CVal K C mc "__init__" (.ref f) (.ref f)
structure BaseAt (K : PySem.W.Frag) (mg : Str → Option Value) (C : Addr) (x : Str) : Prop where
  mg : mg x = some (.ref C)
  rd : ∃ mc f, PySem.W.readsIn K C mc = true ∧ PySem.W.specialIn K (.ref C) "__getattribute__" = some (some (.builtin "type.__getattribute__")) ∧ PySem.W.findCls K (.ref C) mc "__init__" = some (.val (.ref f)) ∧ PySem.W.findIn K (.ref C) "__init__" = some (some (.ref f))
structure ErrAt (K : PySem.W.Frag) (mg : Str → Option Value) (C : Addr) (x : Str) (names : List Str) : Prop where
  mg : mg x = some (.ref C)
  ox : OexC K C
  xf : XfC K C
  no : ∀ f ∈ names, PySem.W.findIn K (.ref C) f = some none
section
variable {P : Program} {w : World} {K : PySem.W.Frag} {mg : Str → Option Value} {base : Heap} {k : Nat} {x m q : Str} {C : Addr} {sp : Sp} {N ps : List Str} {st : Stmt}
theorem MethAt.init (D : MethAt K C "__init__" q st ps) (c : BaseAt K mg C x) (S : FnScope N ps (defScope st)) (len : ∀ vs H Q E, sp vs H Q E → vs.length = ps.length) (b : BodyOk P w K mg base k N q st sp) : InitOk P w K mg base (k + 1) C x sp := by
  obtain ⟨f, fd, F, hm, hb⟩ := D.ex
  obtain ⟨mc, f', h1, h2, h3, h4⟩ := c.rd
  have : f' = f := by
    have h5 := hm.at_
    rw [h4] at h5
    exact Value.ref.inj (Option.some.inj (Option.some.inj h5))
  subst this
  exact ⟨f', fd, ps, mc, F.ok S len (fun cdv A outer s H vs Q E hr h => b f' cdv A outer s H vs Q E hr h), F.kp, hb, c.mg, ⟨h1, h2⟩, ⟨h3, rfl⟩⟩
end
section
variable {X : Cx} {k : Nat} {x : Str} {C : Addr} {sp : Sp} {p1 p2 pos : Pos} {e : Expr} {es : List Expr} {t : TA}
theorem pe_cinit {pl : Sem Bool} (G : InitOk X.prog X.w X.K X.mg X.base k C x sp) (hr : Room k X.A) (ha : PA X (e :: es) t) (hg : Gl X x := by rfl) (hdb : (x == ("__debug__" : Str)) = false := by decide)
    (hst : starEach (e :: es) X.env = (false, eval e X.env) :: starEach es X.env := by rfl) (hpl : (backTo pos (starEach es X.env)).any (·.1) = false := by rfl)
    (ht : eval (.Call (.Attribute (.Name x p1) "__init__" p2) (e :: es) [] pos) X.env = (do
      let ov ← eval (.Name x p1) X.env
      standAt p2.atName
      let (f, first) ← holding [ov] (getMethod ov "__init__" pl)
      callWith pos f first (backTo pos (starEach (e :: es) X.env)) (backToKw pos (keywordEach [] X.env))) := by rfl) :
    PE X (.Call (.Attribute (.Name x p1) "__init__" p2) (e :: es) [] pos) (tCall sp [] E0 t) := by
  obtain ⟨f, fd, ps, mc, F, hk, hb, hm, r, c⟩ := G.ex
  refine ⟨fun pins s σ H Q I h => ?_⟩
  refine PySem.W.methodCall_KW (ld_glob I hg hm ?_ hdb) ht
  refine PySem.W.method_cls (I.tok _).kIn r.ga (ClX.getcval_ok (I.tok _) r c fun s2 I2 => ?_)
  refine PySem.W.callWith_K (first := []) (h₀ := X.base) I2.ok.mod.kin hk (thn (ha.run pos pins s2 σ H _ I2 h) fun us s3 ⟨vs, H2, I3, rv, q2⟩ => ⟨I3.kIn, ?_⟩) hst hpl
  exact run_fn F hr hb .nil pass0 I3 rv q2
end
def spBase : Sp := fun vs H Q _ => ∃ (a C : Addr) (w : V) (K : PySem.W.Frag), vs = [.ref a, w] ∧ OexC K C ∧ H a = some (exo a C none) ∧ Q .non H
def spBaseK (K : PySem.W.Frag) : Sp := fun vs H Q _ => ∃ (a C : Addr) (w : V), vs = [.ref a, w] ∧ OexC K C ∧ H a = some (exo a C none) ∧ Q .non H
def spErr (C : Addr) (names : List Str) : Sp := fun vs H Q _ => ∃ (a : Addr) (ys : List V), vs = .ref a :: ys ∧ ys.length = names.length ∧ H a = some (exo a C none) ∧
  ∀ dx, H dx = none → dx ≠ a → Q .non (upd (upd H dx (exd dx (names.zip ys).reverse)) a (exo a C (some dx)))
theorem upd_swap {H : Hp} {a b : Addr} {o o1 o2 : HO} (n : b ≠ a) : upd (upd (upd H b o1) a o) b o2 = upd (upd H b o2) a o := by
  funext c
  by_cases h1 : c = b
  · subst h1
    rw [upd_same, upd_ne n, upd_same]
  · rw [upd_ne h1]
    by_cases h2 : c = a
    · subst h2
      rw [upd_same, upd_same]
    · rw [upd_ne h2, upd_ne h2, upd_ne h1, upd_ne h1]
theorem errMk {C : Addr} {names : List Str} {vs : List V} {H1 : Hp} {Q : XK} (hl : vs.length = names.length) (hn : names.length ≤ 10) (q : ∀ d, H1 d = none → Q (.ref C) (some d) (upd H1 d (.xd (names.zip vs).reverse))) :
    vs.length ≤ 1000 ∧ ∀ a, H1 a = none → spErr C names (.ref a :: (vs ++ [])) (upd H1 a (exo a C none))
      (fun v H2 => v = .non ∧ ∃ (d : Addr) (fs : List (Str × V)), H2 a = some (exo a C (some d)) ∧ H2 d = some (exd d fs) ∧ H1 d = none ∧ Q (.ref C) (some d) (upd (del H2 a) d (.xd fs))) (fun _ _ _ => False) := by
  refine ⟨by omega, fun a ha => ⟨a, vs, by rw [List.append_nil], hl, upd_same, fun dx hdx ndx => ⟨rfl, dx, _, upd_same, by rw [upd_ne ndx, upd_same], by rw [upd_ne ndx] at hdx; exact hdx, ?_⟩⟩⟩
  have hd : H1 dx = none := by rw [upd_ne ndx] at hdx; exact hdx
  have e : upd (del (upd (upd (upd H1 a (exo a C none)) dx (exd dx (names.zip vs).reverse)) a (exo a C (some dx))) a) dx (.xd (names.zip vs).reverse) = upd H1 dx (.xd (names.zip vs).reverse) := by
    funext c
    by_cases h1 : c = dx
    · subst h1
      rw [upd_same, upd_same]
    · rw [upd_ne h1, upd_ne h1]
      by_cases h2 : c = a
      · subst h2
        rw [del_same, ha]
      · rw [del_ne h2, upd_ne h2, upd_ne h1, upd_ne h2]
  rw [e]
  exact q dx hd
structure CallX (P : Program) (w : World) (K : PySem.W.Frag) (mg : Str → Option Value) (base : Heap) (k : Nat) (x : Str) (sp : Sp) : Prop where
  ex : ∃ f fd ps, FnOk P w K mg base (L2.CX P w) k f fd ps sp ∧ mg x = some (.ref f) ∧ PySem.W.keepIn K (.ref f) = true ∧ Binds K fd ps []
structure MethX (P : Program) (w : World) (K : PySem.W.Frag) (mg : Str → Option Value) (base : Heap) (k : Nat) (C : Addr) (m : Str) (sp : Sp) : Prop where
  ex : ∃ f fd ps, FnOk P w K mg base (L2.CX P w) k f fd ps sp ∧ Meth K C m f ∧ Binds K fd ps [] ∧ Cls K C
structure MakeX (P : Program) (w : World) (K : PySem.W.Frag) (mg : Str → Option Value) (base : Heap) (k : Nat) (C : Addr) (x : Str) (sp : Sp) : Prop where
  ex : ∃ f fd ps, FnOk P w K mg base (L2.CX P w) k f fd ps sp ∧ Mk K C f ∧ Binds K fd ps [] ∧ mg x = some (.ref C)
section
variable {P : Program} {w : World} {K : PySem.W.Frag} {mg : Str → Option Value} {base : Heap} {k : Nat} {x m q : Str} {C : Addr} {sp : Sp} {N ps : List Str} {st : Stmt}
def BodyX (P : Program) (w : World) (K : PySem.W.Frag) (mg : Str → Option Value) (base : Heap) (k : Nat) (N : List Str) (q : Str) (st : Stmt) (sp : Sp) : Prop :=
  ∀ (f : Addr) (cdv : Value) (A : Around) (outer : List Env) (s : Shared) (H : Hp) (vs : List V) (Q : VK) (E : XK), Room k (A.deeper (envOfC q (defScope st) s.heap.objs.size f cdv)) → sp vs H Q E →
    ∃ t, PSs (cxOf (L2.CX P w) P w K mg base N q (defScope st) f cdv A outer s H E) (defBody st) t ∧ t { nx := fun _ H' => Q .non H', rt := Q } (start N vs) H
theorem DefAt.okX (D : DefAt K mg x st ps) (S : FnScope N ps (defScope st)) (len : ∀ vs H Q E, sp vs H Q E → vs.length = ps.length) (b : BodyX P w K mg base k N x st sp) : CallX P w K mg base (k + 1) x sp := by
  obtain ⟨f, fd, F, hm, hb⟩ := D.ex
  exact ⟨f, fd, ps, F.okX S len (fun cdv A outer s H vs Q E hr h => b f cdv A outer s H vs Q E hr h), hm, F.kp, hb⟩
theorem MethAt.okX (D : MethAt K C m q st ps) (c : Cls K C) (S : FnScope N ps (defScope st)) (len : ∀ vs H Q E, sp vs H Q E → vs.length = ps.length) (b : BodyX P w K mg base k N q st sp) : MethX P w K mg base (k + 1) C m sp := by
  obtain ⟨f, fd, F, hm, hb⟩ := D.ex
  exact ⟨f, fd, ps, F.okX S len (fun cdv A outer s H vs Q E hr h => b f cdv A outer s H vs Q E hr h), hm, hb, c⟩
theorem MethAt.makeX (D : MethAt K C "__init__" q st ps) (c : ClassAt K mg C x) (S : FnScope N ps (defScope st)) (len : ∀ vs H Q E, sp vs H Q E → vs.length = ps.length) (b : BodyX P w K mg base k N q st sp) : MakeX P w K mg base (k + 1) C x sp := by
  obtain ⟨f, fd, F, hm, hb⟩ := D.ex
  exact ⟨f, fd, ps, F.okX S len (fun cdv A outer s H vs Q E hr h => b f cdv A outer s H vs Q E hr h), ⟨c.makes, hm.at_, hm.fn, c.kp⟩, hb, c.mg⟩
end
section
variable {X : Cx} {k : Nat} {x m : Str} {C : Addr} {sp : Sp} {p pos apos : Pos} {e o : Expr} {es : List Expr} {t : TA} {ta ti : TE} {W : WX} {E : L2.St → XK}
theorem pe_callX (G : CallX X.prog X.w X.K X.mg X.base k x sp) (hr : Room k X.A) (tk : Takes X W) (ha : PA X (e :: es) t) (hg : Gl X x := by rfl) (hdb : (x == ("__debug__" : Str)) = false := by decide)
    (he : starEach (e :: es) X.env = (false, eval e X.env) :: starEach es X.env := by rfl) (hpl : (backTo pos (starEach es X.env)).any (·.1) = false := by rfl) : PE X (.Call (.Name x p) (e :: es) [] pos) (tCallS sp (WE W) t) := by
  obtain ⟨f, fd, ps, F, hm, hk, hb⟩ := G.ex
  exact pe_callS F hr hg hm hk hb (fun σ => passAt tk σ) ha hdb he hpl
def tMethX (C : Addr) (m : Str) (sp : Sp) (E : L2.St → XK) (ta : TE) (t : TA) : TE := fun σ H Q => ta σ H fun x H1 => ∃ a dx fs, x = .ref a ∧ H1 a = some (.ins C dx fs) ∧ fs.lookup m = none ∧ t σ H1 fun vs H2 => sp (x :: vs) H2 Q (E σ)
theorem pe_methX {pl : Sem Bool} (he : PE X o ta) (G : MethX X.prog X.w X.K X.mg X.base k C m sp) (hr : Room k X.A) (tk : Takes X W) (ha : PA X (e :: es) t)
    (hst : starEach (e :: es) X.env = (false, eval e X.env) :: starEach es X.env := by rfl) (hpl : (backTo pos (starEach es X.env)).any (·.1) = false := by rfl)
    (ht : eval (.Call (.Attribute o m apos) (e :: es) [] pos) X.env = (do
      let ov ← eval o X.env
      standAt apos.atName
      let (f, first) ← holding [ov] (getMethod ov m pl)
      callWith pos f first (backTo pos (starEach (e :: es) X.env)) (backToKw pos (keywordEach [] X.env))) := by rfl) :
    PE X (.Call (.Attribute o m apos) (e :: es) [] pos) (tMethX C m sp (WE W) ta t) := by
  obtain ⟨f, fd, ps, F, hm, hb, c⟩ := G.ex
  refine ⟨fun pins s σ H Q I h => ?_⟩
  refine PySem.W.methodCall_KW (pl := pl) (thn (he.run pins s σ H _ I h) fun u s1 ⟨x, H1, I1, rx, a, dx, fs, ex, ea, l, q⟩ => ?_) ht
  subst ex
  obtain rfl : u = Value.ref a := rx
  refine getmeth_ok I1 ea c hm l ?_
  refine PySem.W.callWith_K (first := [.ref a]) (h₀ := X.base) I.ok.mod.kin hm.kp (thn (ha.run pos pins s1 σ H1 _ I1 q) fun us s2 ⟨vs, H2, I2, r, q2⟩ => ⟨I2.kIn, ?_⟩) hst hpl
  exact run_fnS (us := .ref a :: us) (vs := .ref a :: vs) F hr hb (passAt tk σ) I2 (.cons rfl r) q2
theorem run_makeS {f : Addr} {fd : FuncData} {ps : List Str} {CX : CXT} {pins : List (Addr × Obj)} {σ : L2.St} {H : Hp} {s : Shared} {Q : VK} {us : List Value} {vs : List V} (M : Mk X.K C f) (F : FnOk X.prog X.w X.K X.mg X.base CX k f fd ps sp) (hr : Room (k + 1) X.A) (hb : Binds X.K fd ps [])
    (hx : PassesAt CX X σ (E σ)) (I : Inv X pins σ H s) (r : Vals vs us)
    (h : ∀ x dx, H x = none → H dx = none → dx ≠ x → sp (.ref x :: vs) (upd (upd H dx (.own x)) x (.ins C dx [])) (fun v H2 => v = .non ∧ Q (.ref x) H2) (E σ)) :
    wpAny (model X.prog X.w) X.A (call (.ref C) us) (EP X pins σ Q) X.xe s := by
  have hq := h (s.heap.objs.size + 1) s.heap.objs.size (I.hok.fresh (Nat.le_succ _)) (I.hok.fresh (Nat.le_refl _)) (Nat.ne_of_lt (Nat.lt_succ_self _))
  have I2 := Inv.made (C := C) I
  have r2 : Vals (V.ref (s.heap.objs.size + 1) :: vs) (Value.ref (s.heap.objs.size + 1) :: us) := .cons rfl r
  have hl : (Value.ref (s.heap.objs.size + 1) :: us).length = ps.length := by
    have e := r2.length
    rw [F.len _ _ _ _ hq] at e
    exact e.symm
  have hb2 := hb _ (Value.ref (s.heap.objs.size + 1) :: us) I2.kIn (by rw [List.append_nil]; exact hl)
  rw [List.append_nil] at hb2
  refine wpAny_call (make_map (f := f) I.kIn M.makes M.init (beq_iff_eq.mp M.fn) (codeAny_mono (F.run _ X.stack _ _ ⟨Value.ref (s.heap.objs.size + 1) :: us, []⟩ (Value.ref (s.heap.objs.size + 1) :: us) _ _ (E σ) (hr.make C us [])
    (I2.env0.make C us []) hb2 r2 hq) fun r s' hq' => ?_))
  cases r with
  | error e => exact hx pins _ _ e s' I2 hq'
  | ok fl =>
    cases fl with
    | ret u =>
      obtain ⟨v, H', I3, rv, ev, q3⟩ := I2.after hq'
      subst ev
      exact ⟨rv, ⟨V.ref (s.heap.objs.size + 1), H', I3, rfl, q3⟩⟩
    | next => exact False.elim hq'
    | brk => exact False.elim hq'
    | cont => exact False.elim hq'
def tMakeX (C : Addr) (sp : Sp) (E : L2.St → XK) (t : TA) : TE := fun σ H Q => t σ H fun vs H1 => ∀ x dx, H1 x = none → H1 dx = none → dx ≠ x →
  sp (.ref x :: vs) (upd (upd H1 dx (.own x)) x (.ins C dx [])) (fun v H2 => v = .non ∧ Q (.ref x) H2) (E σ)
theorem pe_makeX (G : MakeX X.prog X.w X.K X.mg X.base k C x sp) (hr : Room (k + 1) X.A) (tk : Takes X W) (ha : PA X (e :: es) t) (hg : Gl X x := by rfl) (hdb : (x == ("__debug__" : Str)) = false := by decide)
    (he : starEach (e :: es) X.env = (false, eval e X.env) :: starEach es X.env := by rfl) (hpl : (backTo pos (starEach es X.env)).any (·.1) = false := by rfl) : PE X (.Call (.Name x p) (e :: es) [] pos) (tMakeX C sp (WE W) t) := by
  obtain ⟨f, fd, ps, F, M, hb, hm⟩ := G.ex
  refine ⟨fun pins s σ H Q I h => ?_⟩
  refine wpAny_Call_Name_kw (ld_glob I hg hm ?_ hdb)
  refine PySem.W.callWith_K (h₀ := X.base) I.ok.mod.kin M.kp (thn (ha.run pos pins s σ H _ I h) fun us s1 ⟨vs, H1, I1, r, q⟩ => ⟨I1.kIn, ?_⟩) he hpl
  exact run_makeS M F hr hb (passAt tk σ) I1 r q
def gSubX (C : Addr) (sp : Sp) (E : L2.St → XK) (to ti : TE) : TG := fun v σ H Q => to σ H fun o H1 => ti σ H1 fun i H2 => ∃ a dx fs, o = .ref a ∧ H2 a = some (.ins C dx fs) ∧ sp [.ref a, i, v] H2 (fun _ H3 => Q σ H3) (E σ)
theorem pg_subX {i : Expr} (ho : PE X o ta) (hi : PE X i ti) (G : MethX X.prog X.w X.K X.mg X.base k C "__setitem__" sp) (hr : Room k X.A) (hq : PySem.W.noSeq X.K C = true) (tk : Takes X W)
    (ha : ∀ v, assign (.Subscript o i pos) X.env v = (do
      let ov ← holding [v] (eval o X.env)
      let iv ← holding [v, ov] (eval i X.env)
      standAt pos
      holding [v, ov, iv] (setItem ov iv v)
      release [v, ov, iv] []) := by intro _; rfl) : PG X (.Subscript o i pos) (gSubX C sp (WE W) ta ti) := by
  obtain ⟨f, fd, ps, F, hm, hb, c⟩ := G.ex
  refine ⟨fun pins s σ H v u Q I r h => ?_⟩
  rw [ha]
  refine wpAny_bind (wpAny_holding (thn (ho.run pins s σ H _ I h) fun ov s1 ⟨x, H1, I1, r1, q1⟩ => ?_))
  refine wpAny_bind (wpAny_holding (thn (hi.run pins s1 σ H1 _ I1 q1) fun iv s2 ⟨y, H2, I2, r2, q2⟩ => ?_))
  obtain ⟨a, dx, fs, rfl, hp, q2⟩ := q2
  obtain rfl : ov = Value.ref a := r1
  have I2t := I2.tok s2.toks
  refine wpAny_bind (wpAny_standAt (wpAny_bind (wpAny_holding ?_)))
  obtain ⟨m, fr⟩ := I2.fr
  obtain ⟨mA, O, _⟩ := ins_get I2.hok hp
  obtain ⟨od, J, _⟩ := O.look
  refine PySem.W.ksp_setItem fr I2.ok.mod.kin J hq hm.at_ hm.fn (thn (run_fnS (us := [.ref a, iv, u]) (vs := [.ref a, y, v]) F hr hb (passAt tk σ) I2 (.cons rfl (.cons r2 (.cons r .nil))) q2) fun rr s3 ⟨z, H3, I3, r3, q3⟩ => ?_)
  exact wpAny_release ⟨σ, H3, I3, q3⟩
def tIxX (C : Addr) (sp : Sp) (E : L2.St → XK) (ta tb : TE) : TE := fun σ H Q => ta σ H fun x H1 => tb σ H1 fun y H2 => ∃ a dx fs, x = .ref a ∧ H2 a = some (.ins C dx fs) ∧ sp [.ref a, y] H2 Q (E σ)
end
end My
namespace My
open PySem PySem.Spec PyProof.Rows L2
section
variable {X : Cx} {k : Nat} {C : Addr} {sp : Sp} {q : Str} {st : Stmt} {ps : List Str} {pos : Pos} {o i : Expr} {ta ti : TE} {W : WX}
theorem pe_ixX {s2 : Stmt} (ho : PE X o ta) (hi : PE X i ti) (G : MethX X.prog X.w X.K X.mg X.base k C "__getitem__" sp) (D : MethAt X.K C "__getitem__" q st ps) (hr : Room (k + 1) X.A) (tk : Takes X W)
    (hs : ∀ ov iv, subscripted i true ov iv = runValue (.builtin "lifetime.subscript" ⟨[ov, iv], []⟩) := by intro _ _; rfl) : PE X (.Subscript o i pos) (tIxX C sp (WE W) ta ti) := by
  obtain ⟨f, fd, ps2, F, hm, hb, c⟩ := G.ex
  refine ⟨fun pins s σ H Q I h => ?_⟩
  refine Subscript_ (thn (ho.run pins s σ H _ I h) fun ov s1 ⟨x, H1, I1, r1, q1⟩ => thn (hi.run pins s1 σ H1 _ I1 q1) fun iv s2 ⟨y, H2, I2, r2, q2⟩ => ?_)
  obtain ⟨a, dx, fs, rfl, hp, q2⟩ := q2
  obtain rfl : ov = Value.ref a := r1
  obtain ⟨m, fr⟩ := I2.fr
  obtain ⟨mA, O, _⟩ := ins_get I2.hok hp
  obtain ⟨od, J, _⟩ := O.look
  have hl : ([.ref a, iv] : List Value).length = ps2.length := by
    have e : Vals [V.ref a, y] [Value.ref a, iv] := .cons rfl (.cons r2 .nil)
    rw [← e.length]
    exact F.len _ _ _ _ q2
  have hbt := hb s2 [.ref a, iv] I2.kIn (by simpa using hl)
  rw [List.append_nil] at hbt
  refine PySem.W.sub_K fr I2.ok.mod.kin J hm.at_ (D.fnIn hm) hm.fn ?_ (hs _ _)
  refine wpAny_call (codeAny_mono (F.run X.A.in1 X.stack s2 H2 ⟨[.ref a, iv], []⟩ [.ref a, iv] [.ref a, y] Q (WE W σ) hr.in1 I2.env0.in1 hbt (.cons rfl (.cons r2 .nil)) q2) fun r s' hq => ?_)
  cases r with
  | error e => exact passAt tk σ pins _ _ e s' I2 hq
  | ok fl =>
    cases fl with
    | ret u => exact I2.after hq
    | next => exact False.elim hq
    | brk => exact False.elim hq
    | cont => exact False.elim hq
end
end My
namespace My
open PySem PySem.Spec PyProof.Rows L2
structure ErrOk (P : Program) (w : World) (K : PySem.W.Frag) (mg : Str → Option Value) (base : Heap) (k : Nat) (C : Addr) (x : Str) (names : List Str) : Prop where
  ex : ∃ f fd ps, FnOk P w K mg base CX0 k f fd ps (spErr C names) ∧ PySem.W.findIn K (.ref C) "__init__" = some (some (.ref f)) ∧ PySem.W.typeIn K (.ref f) = some (.type "function") ∧ Binds K fd ps [] ∧ ErrAt K mg C x names
theorem MethAt.err {P : Program} {w : World} {K : PySem.W.Frag} {mg : Str → Option Value} {base : Heap} {k : Nat} {x q : Str} {C : Addr} {N ps names : List Str} {st : Stmt} (D : MethAt K C "__init__" q st ps) (c : ErrAt K mg C x names) (S : FnScope N ps (defScope st))
    (len : ∀ vs H Q E, spErr C names vs H Q E → vs.length = ps.length) (b : BodyOk P w K mg base k N q st (spErr C names)) : ErrOk P w K mg base (k + 1) C x names := by
  obtain ⟨f, fd, F, hm, hb⟩ := D.ex
  exact ⟨f, fd, ps, F.ok S len (fun cdv A outer s H vs Q E hr h => b f cdv A outer s H vs Q E hr h), hm.at_, beq_iff_eq.mp hm.fn, hb, c⟩
section
variable {X : Cx} {k : Nat} {x : Str} {C : Addr} {names : List Str} {p pos pos2 : Pos} {e : Expr} {es : List Expr} {t : TA} {W : WX}
def tRaiseE (C : Addr) (names : List Str) (W : WX) (t : TA) : TS := fun _ σ H => tMkO C (spErr C names) [] t σ H fun cls d H' => W cls d σ H'
theorem ps_raiseE (hc : X.calm = true) (G : ErrOk X.prog X.w X.K X.mg X.base k C x names) (hr : Room (k + 1) X.A) (tk : Takes X W) (ha : PA X (e :: es) t) (hg : Gl X x := by rfl) (hdb : (x == ("__debug__" : Str)) = false := by decide)
    (he : starEach (e :: es) X.env = (false, eval e X.env) :: starEach es X.env := by rfl) (hpl : (backTo pos (starEach es X.env)).any (·.1) = false := by rfl) :
    PS X (.Raise (some (.Call (.Name x p) (e :: es) [] pos)) none pos2) (tRaiseE C names W t) := by
  obtain ⟨f, fd, ps, F, iC, tI, hb, c⟩ := G.ex
  exact ps_raise hc tk (pmk_oex c.ox iC tI F hr hb .nil pass0 hg c.mg ha hdb he hpl)
end
end My
namespace My
open PySem PySem.Spec PyProof.Rows L2
section
variable {K : PySem.W.Frag} {h : Heap} {mg : Str → Option Value} {C f N : Addr} {x nm q : Str} {bs bm : List Value} {sn : List Str} {sub : List Value} {ab : Bool} {col : Option Bool} {dd : Option Addr} {m0 m1 m2 m3 m5 : Option Value}
theorem baseAt (X : K.In h) (G : h.Ns mainGlobals mg) (a : PySem.W.nsIn K mainGlobals x = some (some (.ref C))) (rd : PySem.W.readsIn K C (.type "type") = true) (ga : PySem.W.specialIn K (.ref C) "__getattribute__" = some (some (.builtin "type.__getattribute__")))
    (fi : PySem.W.findIn K (.ref C) "__init__" = some (some (.ref f))) (fc : PySem.W.findCls K (.ref C) (.type "type") "__init__" = some (.val (.ref f))) : BaseAt K mg C x := ⟨PySem.W.mg_of X G a, _, f, rd, ga, fc, fi⟩
theorem errAt {names : List Str} (X : K.In h) (G : h.Ns mainGlobals mg) (a : PySem.W.nsIn K mainGlobals x = some (some (.ref C))) (l : K.lookup C = some (excClassObj nm q C N bs bm true sn sub ab col dd m0 m1 m2 m3 m5 "ValueError.__new__")) (b : PySem.HandSPX.refsVE bm = true)
    (sa : PySem.W.findIn K (.ref C) "__setattr__" = some (some (.builtin "object.__setattr__"))) (eC : PySem.W.subIn K (.ref C) (.type "BaseException") = some true) (tC : PySem.W.typeIn K (.ref C) = some (.type "type")) (kC : PySem.W.keepIn K (.ref C) = true)
    (ga : PySem.W.findIn K (.ref C) "__getattribute__" = some (some (.builtin "BaseException.__getattribute__"))) (gg : PySem.W.findIn K (.ref C) "__getattr__" = some none) (hC : PySem.W.hasDictIn K C = true) (no : ∀ f ∈ names, PySem.W.findIn K (.ref C) f = some none) : ErrAt K mg C x names :=
  ⟨PySem.W.mg_of X G a, ⟨⟨nm, q, N, bs, bm, sn, sub, ab, col, dd, m0, m1, m2, m3, m5, l, b⟩, sa, eC, tC, kC⟩, ⟨ga, gg, eC, hC⟩, no⟩
theorem no0 : ∀ f ∈ ([] : List Str), PySem.W.findIn K (.ref C) f = some none := by simp
theorem noC {g : Str} {l : List Str} (h : PySem.W.findIn K (.ref C) g = some none) (r : ∀ f ∈ l, PySem.W.findIn K (.ref C) f = some none) : ∀ f ∈ g :: l, PySem.W.findIn K (.ref C) f = some none := fun f hf => by
  rcases List.mem_cons.mp hf with rfl | hf
  · exact h
  · exact r f hf
theorem ErrAt.exm {names : List Str} {cls : Value} {b : Bool} (c : ErrAt K mg C x names) (h : PySem.W.subIn K cls (.ref C) = some b) : PySem.W.exmOne K cls (.ref C) = some b := PySem.W.exm_ref c.ox.exC c.xf.hdC c.ox.tyC h
end
end My
namespace My
open PySem PySem.Spec PyProof.Rows L2
theorem xd1 {f : Str} {y : V} {l : List (Str × V)} : ((f, y) :: l).lookup f = some y := by rw [lookup_put, if_pos rfl]
theorem xdS {f g : Str} {y : V} {l : List (Str × V)} {o : Option V} (h : ¬ g = f) (r : l.lookup g = o) : ((f, y) :: l).lookup g = o := by rw [lookup_put, if_neg h, r]
end My
namespace My
open PySem L2
theorem Fr1.new {a p : Addr} {H H' : Hp} {o : HO} {n : Nat} (f : Fr1 a H H') (S : StAt H' a n) (h : H' p = none) : Fr1 a H (L2.upd H' p o) := f.upd (f.free (S.ne h).symm h)
theorem cut_drop (xs : List V) (k : Nat) (h : k ≤ xs.length) : cutV xs (some (k : Int)) none = xs.drop k := by
  unfold cutV
  rw [show HT.sIx xs.length 0 (some (k : Int)) = min k xs.length from HT.sIx_nat _ _ k, HT.sIx_none, Nat.min_eq_left h]
  exact List.take_of_length_le (by rw [List.length_drop]; exact Nat.le_refl _)
end My
namespace My
open PySem L2
theorem vSome {kvs : List (Key × V)} {k : Key} (h : k ∈ kvs.map (·.1)) : ∃ v, valV kvs k = some v := by
  have h1 := valV_any k kvs
  obtain ⟨q, hq, rfl⟩ := List.mem_map.mp h
  have h2 : (kvs.any fun kv => decide (kv.1 = q.1)) = true := List.any_eq_true.mpr ⟨q, hq, decide_eq_true rfl⟩
  rw [h2] at h1
  exact Option.isSome_iff_exists.mp h1.symm
theorem vPair {kvs : List (Key × V)} {k : Key} {v : V} (h : valV kvs k = some v) : (k, v) ∈ kvs := by
  unfold valV at h
  obtain ⟨q, hq, rfl⟩ := Option.map_eq_some_iff.mp h
  have h2 : q.1 = k := of_decide_eq_true (List.find?_some (p := fun kv : Key × V => decide (kv.1 = k)) hq)
  rw [← h2]
  exact List.mem_of_find?_eq_some hq
theorem vNone {kvs : List (Key × V)} {k : Key} (h : k ∉ kvs.map (·.1)) : valV kvs k = none := by
  cases c : valV kvs k with
  | none => rfl
  | some v => exact absurd (valV_in c) h
theorem vMem {kvs : List (Key × V)} (nd : (kvs.map (·.1)).Nodup) {q : Key × V} (h : q ∈ kvs) : valV kvs q.1 = some q.2 := by
  obtain ⟨i, hi, e⟩ := List.getElem_of_mem h
  exact valV_at nd (i := i) (by rw [List.getElem?_eq_getElem hi, e])
theorem putK_keys (a : List (Key × V)) (k : Key) (v : V) : (putK a k v).map (·.1) = if ((a.map (·.1)).any fun x => decide (x = k)) = true then a.map (·.1) else a.map (·.1) ++ [k] := by
  by_cases h : k ∈ a.map (·.1)
  · rw [if_pos (List.any_eq_true.mpr ⟨k, h, decide_eq_true rfl⟩)]
    obtain ⟨u, hu⟩ := vSome h
    unfold putK
    rw [valV_any, hu]
    show ((a.map fun kv => if kv.1 = k then (kv.1, v) else kv).map (·.1)) = _
    rw [List.map_map]
    have : ((·.1) ∘ fun kv : Key × V => if kv.1 = k then (kv.1, v) else kv) = (·.1) := by
      funext kv
      show (if kv.1 = k then (kv.1, v) else kv).1 = kv.1
      split <;> rfl
    rw [this]
  · rw [if_neg (fun z => by
      obtain ⟨x, hx, e⟩ := List.any_eq_true.mp z
      rw [of_decide_eq_true e] at hx
      exact h hx), putK_new _ (vNone h), List.map_append]
    rfl
theorem dropK_keys : ∀ (a : List (Key × V)) (k : Key), (dropK a k).map (·.1) = (a.map (·.1)).filter fun x => decide (x ≠ k)
  | [], _ => rfl
  | p :: r, k => by
    by_cases e : p.1 = k
    · rw [dropK_pos e, dropK_keys r k, List.map_cons, List.filter_cons, if_neg (by simp [e])]
    · rw [dropK_neg e, List.map_cons, dropK_keys r k, List.map_cons, List.filter_cons, if_pos (by simp [e])]
theorem vDrop : ∀ (a : List (Key × V)) (k j : Key), valV (dropK a k) j = if j = k then none else valV a j
  | [], k, j => by
    show valV [] j = _
    rw [valV_nil]
    split <;> rfl
  | p :: r, k, j => by
    by_cases e : p.1 = k
    · rw [dropK_pos e, vDrop r k j]
      by_cases h : j = k
      · rw [if_pos h, if_pos h]
      · rw [if_neg h, if_neg h, valV_neg (fun z => h (z.symm.trans e))]
    · rw [dropK_neg e]
      by_cases h : p.1 = j
      · rw [valV_pos h, if_neg (fun z => e (h.trans z)), valV_pos h]
      · rw [valV_neg h, vDrop r k j, valV_neg h]
structure RowsEq (H : Hp) (a b : List (Key × V)) : Prop where
  keys : b.map (·.1) = a.map (·.1)
  row : ∀ k v, valV a k = some v → ∃ v' lab cs, valV b k = some v' ∧ Td H v (rowD lab cs) ∧ Td H v' (rowD lab cs)
section
variable {H H' : Hp} {a b : List (Key × V)}
theorem RowsEq.mono (h : RowsEq H a b) (kt : KT H H') : RowsEq H' a b := ⟨h.keys, fun k v hv => by
  obtain ⟨v', lab, cs, h1, h2, h3⟩ := h.row k v hv
  exact ⟨v', lab, cs, h1, h2.mono kt, h3.mono kt⟩⟩
theorem RowsEq.nil : RowsEq H [] [] := ⟨rfl, fun k v h => by cases h⟩
theorem RowsEq.len (h : RowsEq H a b) : b.length = a.length := by
  have := congrArg List.length h.keys
  rw [List.length_map, List.length_map] at this
  exact this
theorem RowsEq.some (h : RowsEq H a b) (k : Key) : (valV b k).isSome = (valV a k).isSome := by
  cases c : valV a k with
  | some v =>
    obtain ⟨v', lab, cs, h1, _⟩ := h.row k v c
    rw [h1]
    rfl
  | none =>
    have : k ∉ a.map (·.1) := fun m => by
      obtain ⟨v, hv⟩ := vSome m
      rw [c] at hv
      cases hv
    rw [← h.keys] at this
    rw [vNone this]
theorem RowsEq.put {k : Key} {v v' : V} {lab : Int} {cs : List (Option Int)} (h : RowsEq H a b) (h1 : Td H v (rowD lab cs)) (h2 : Td H v' (rowD lab cs)) : RowsEq H (putK a k v) (putK b k v') := by
  refine ⟨by rw [putK_keys, putK_keys, h.keys], fun j u hu => ?_⟩
  rw [valV_put] at hu
  rw [valV_put]
  by_cases e : j = k
  · rw [if_pos e] at hu ⊢
    cases hu
    exact ⟨_, lab, cs, rfl, h1, h2⟩
  · rw [if_neg e] at hu ⊢
    exact h.row j u hu
theorem RowsEq.drop {k : Key} (h : RowsEq H a b) : RowsEq H (dropK a k) (dropK b k) := by
  refine ⟨by rw [dropK_keys, dropK_keys, h.keys], fun j u hu => ?_⟩
  rw [vDrop] at hu ⊢
  by_cases e : j = k
  · rw [if_pos e] at hu
    cases hu
  · rw [if_neg e] at hu ⊢
    exact h.row j u hu
end
structure Side2 (CD CS : Addr) (H : Hp) (pl : Plan) (s : Side) (ct ch : List (List (Key × V))) : Prop where
  db : DbAt CD CS H s.p pl s.sp s.de s.dr s.ds ct
  hd : HeldAt H s.dh pl s.hs ch
  nd : s.dicts.Nodup
  ap : ∀ d ∈ s.dicts, d ∉ s.fix
  eq : ∀ (i : Nat) (a b : List (Key × V)), ct[i]? = some a → ch[i]? = some b → RowsEq H a b
section
variable {CD CS : Addr} {H H' : Hp} {pl : Plan} {s : Side} {ct ch : List (List (Key × V))}
theorem Side2.same (S : Side2 CD CS H pl s ct ch) (e : Same H H') : Side2 CD CS H' pl s ct ch := ⟨S.db.same e, S.hd.same e, S.nd, S.ap, fun i a b h1 h2 => (S.eq i a b h1 h2).mono (KT.of e)⟩
theorem Side2.frf {F : List Addr} (S : Side2 CD CS H pl s ct ch) (e : FrF F H H') (nF : ∀ c ∈ F, ∀ xs, H c ≠ some (.tup xs)) (ap : ∀ c ∈ F, c ∉ s.fix ∧ c ∉ s.dicts) : Side2 CD CS H' pl s ct ch := by
  have k : ∀ G : List Addr, (∀ c ∈ G, c ∈ s.fix ∨ c ∈ s.dicts) → Kept G H H' := fun G hG => e.kept (fun c hc hF => by
    obtain ⟨a1, a2⟩ := ap c hF
    rcases hG c hc with h | h
    · exact a1 h
    · exact a2 h) nF
  refine ⟨S.db.keep (k _ fun c hc => ?_), S.hd.keep (k _ fun c hc => ?_), S.nd, S.ap, fun i a b h1 h2 => (S.eq i a b h1 h2).mono (k [] (by simp)).kt⟩
  · simp only [foot, List.mem_cons] at hc
    simp only [Side.fix, Side.dicts, List.mem_cons, List.mem_append]
    rcases hc with h | h | h | h | h <;> simp [h]
  · simp only [List.mem_cons] at hc
    simp only [Side.fix, Side.dicts, List.mem_cons, List.mem_append]
    rcases hc with h | h <;> simp [h]
theorem Side2.dict (S : Side2 CD CS H pl s ct ch) {c : Addr} (hc : c ∈ s.dicts) : ∃ kvs, H c = some (.dK kvs) := by
  rcases List.mem_append.mp hc with h | h
  · obtain ⟨i, hi, ei⟩ := List.getElem_of_mem h
    have hi2 : i < ct.length := by rw [S.db.cl, ← S.db.dl]; exact hi
    exact ⟨_, S.db.at_ i c _ (by rw [List.getElem?_eq_getElem hi, ei]) (List.getElem?_eq_getElem hi2)⟩
  · obtain ⟨i, hi, ei⟩ := List.getElem_of_mem h
    have hi2 : i < ch.length := by rw [S.hd.cl, ← S.hd.dl]; exact hi
    exact ⟨_, S.hd.at_ i c _ (by rw [List.getElem?_eq_getElem hi, ei]) (List.getElem?_eq_getElem hi2)⟩
theorem Side2.fr1 {a : Addr} {xs : List V} (S : Side2 CD CS H pl s ct ch) (h : H a = some (.lst xs)) (e : Fr1 a H H') : Side2 CD CS H' pl s ct ch := by
  refine S.frf (F := [a]) (fun c o hc ho => e c o (fun z => hc (by simp [z])) ho) (fun c hc ys z => ?_) fun c hc => ?_
  · rw [List.mem_singleton.mp hc, h] at z
    cases z
  · rw [List.mem_singleton.mp hc]
    refine ⟨fun m => ?_, fun m => ?_⟩
    · obtain ⟨dx, hp⟩ := S.db.ob
      obtain ⟨sdx, stv, skvs, s1, _, s3, _⟩ := S.db.sch.ex
      simp only [Side.fix, List.mem_cons, List.not_mem_nil, or_false] at m
      rcases m with rfl | rfl | rfl | rfl | rfl
      · rw [hp] at h
        cases h
      · rw [s1] at h
        cases h
      · rw [s3] at h
        cases h
      · rw [S.db.rws] at h
        cases h
      · rw [S.hd.rws] at h
        cases h
    · obtain ⟨u, hu⟩ := S.dict m
      rw [hu] at h
      cases h
theorem Side2.of {p sp de dr dh : Addr} {G : Hp} {ds hs : List Addr} (D : DbAt CD CS H p pl sp de dr ds ct) (Hd : HeldAt H dh pl hs ch) (L : ∀ c ∈ foot p sp de dr ds, G c ≠ none) (n1 : G dh = none) (n2 : ∀ d ∈ hs, G d = none) (eq : ∀ (i : Nat) (a b : List (Key × V)), ct[i]? = some a → ch[i]? = some b → RowsEq H a b) :
    Side2 CD CS H pl ⟨p, sp, de, dr, ds, dh, hs⟩ ct ch := by
  obtain ⟨dx, hp⟩ := D.ob
  obtain ⟨sdx, stv, skvs, s1, _⟩ := D.sch.ex
  have inF : ∀ c ∈ ds, c ∈ foot p sp de dr ds := fun c hc => by simp [foot, hc]
  refine ⟨D, Hd, List.nodup_append.mpr ⟨D.nd, Hd.nd, fun x hx y hy e => ?_⟩, fun d hd => ?_, eq⟩
  · subst e
    exact L x (inF x hx) (n2 x hy)
  · intro m
    simp only [Side.fix, List.mem_cons, List.not_mem_nil, or_false] at m
    rcases List.mem_append.mp hd with h | h
    · have hdk : ∃ u, H d = some (.dK u) := by
        obtain ⟨i, hi, ei⟩ := List.getElem_of_mem h
        have hi2 : i < ct.length := by rw [D.cl, ← D.dl]; exact hi
        exact ⟨_, D.at_ i d _ (by rw [List.getElem?_eq_getElem hi, ei]) (List.getElem?_eq_getElem hi2)⟩
      obtain ⟨u, hu⟩ := hdk
      rcases m with rfl | rfl | rfl | rfl | rfl
      · rw [hp] at hu
        cases hu
      · rw [s1] at hu
        cases hu
      · exact D.apart.2 h
      · exact D.apart.1 h
      · exact L _ (inF _ h) n1
    · rcases m with rfl | rfl | rfl | rfl | rfl
      · exact L _ (by simp [foot]) (n2 _ h)
      · exact L _ (by simp [foot]) (n2 _ h)
      · exact L _ (by simp [foot]) (n2 _ h)
      · exact L _ (by simp [foot]) (n2 _ h)
      · exact Hd.apart h
theorem Side2.step {H1 : Hp} {i : Nat} {d d2 : Addr} {ka kb : List (Key × V)} (S : Side2 CD CS H pl s ct ch) (hd : s.ds[i]? = some d) (hd2 : s.hs[i]? = some d2)
    (D1 : DbAt CD CS H1 s.p pl s.sp s.de s.dr s.ds (ct.set i ka)) (e : Fr1 d H H1) (q : RowsEq (upd H1 d2 (.dK kb)) ka kb) : Side2 CD CS (upd H1 d2 (.dK kb)) pl s (ct.set i ka) (ch.set i kb) := by
  have hdm : d ∈ s.ds := List.mem_of_getElem? hd
  have hdm2 : d2 ∈ s.hs := List.mem_of_getElem? hd2
  have dj := (List.nodup_append.mp S.nd).2.2
  have hi2 : i < ch.length := by rw [S.hd.cl, ← S.hd.dl]; exact (List.getElem?_eq_some_iff.mp hd2).1
  have hi1 : i < ct.length := by rw [S.db.cl, ← S.db.dl]; exact (List.getElem?_eq_some_iff.mp hd).1
  have h2 : H d2 = some (.dK ch[i]) := S.hd.at_ i d2 _ hd2 (List.getElem?_eq_getElem hi2)
  have hd0 : H d = some (.dK ct[i]) := S.db.at_ i d _ hd (List.getElem?_eq_getElem hi1)
  have n12 : d2 ≠ d := fun z => dj d hdm d2 hdm2 z.symm
  have h2' : H1 d2 = some (.dK ch[i]) := e d2 _ n12 h2
  have ap1 := S.ap d (List.mem_append.mpr (.inl hdm))
  have ap2 := S.ap d2 (List.mem_append.mpr (.inr hdm2))
  have kt1 : KT H H1 := fun c xs hc => e c _ (ne_of hc hd0 (by intro z; cases z)) hc
  have kt2 : KT H1 (upd H1 d2 (.dK kb)) := fun c xs hc => by
    rw [upd_ne (ne_of hc h2' (by intro z; cases z))]
    exact hc
  have kH : HeldAt H1 s.dh pl s.hs ch := S.hd.keep ⟨fun c hc o ho => e c o (fun z => by
    subst z
    rcases List.mem_cons.mp hc with h | h
    · exact ap1 (by simp [Side.fix, h])
    · exact dj c hdm c h rfl) ho, kt1⟩
  refine ⟨D1.keep ⟨fun c hc o ho => ?_, kt2⟩, kH.set (kvs := ch[i]) hd2 kb, S.nd, S.ap, fun j a b h1 h3 => ?_⟩
  · have : c ≠ d2 := fun z => by
      subst z
      simp only [foot, List.mem_cons] at hc
      rcases hc with h | h | h | h | h
      · exact ap2 (by simp [Side.fix, h])
      · exact ap2 (by simp [Side.fix, h])
      · exact ap2 (by simp [Side.fix, h])
      · exact ap2 (by simp [Side.fix, h])
      · exact dj c h c hdm2 rfl
    rw [upd_ne this]
    exact ho
  · by_cases c : i = j
    · subst c
      rw [List.getElem?_set_self hi1] at h1
      rw [List.getElem?_set_self hi2] at h3
      cases h1
      cases h3
      exact q
    · rw [List.getElem?_set_ne c] at h1 h3
      exact (S.eq j a b h1 h3).mono (kt1.trans kt2)
end
structure Many2 (n : Nat) (CD CS : Addr) (H : Hp) (PL : Nat → Plan) (S : Nat → Side) (C Ch : Nat → List (List (Key × V))) (m : Nat) : Prop where
  sd : ∀ k, k < n → Side2 CD CS H (PL k) (S k) (C k) (Ch k)
  ln : ∀ k, k < n → ∀ kvs ∈ C k, kvs.length ≤ m
def setF (C : Nat → List (List (Key × V))) (k i : Nat) (kvs : List (Key × V)) : Nat → List (List (Key × V)) := fun j => if j = k then (C k).set i kvs else C j
theorem setF_at (C : Nat → List (List (Key × V))) (k i : Nat) (kvs : List (Key × V)) : setF C k i kvs k = (C k).set i kvs := if_pos rfl
section
variable {n : Nat} {CD CS : Addr} {H H' : Hp} {PL : Nat → Plan} {S : Nat → Side} {C Ch : Nat → List (List (Key × V))} {m : Nat}
theorem Many2.same (W : Many2 n CD CS H PL S C Ch m) (e : Same H H') : Many2 n CD CS H' PL S C Ch m := ⟨fun k hk => (W.sd k hk).same e, W.ln⟩
theorem Many2.up {m' : Nat} (W : Many2 n CD CS H PL S C Ch m) (l : m ≤ m') : Many2 n CD CS H PL S C Ch m' := ⟨W.sd, fun k hk kvs h => Nat.le_trans (W.ln k hk kvs h) l⟩
theorem Many2.fr1 {a : Addr} {xs : List V} (W : Many2 n CD CS H PL S C Ch m) (h : H a = some (.lst xs)) (e : Fr1 a H H') : Many2 n CD CS H' PL S C Ch m := ⟨fun k hk => (W.sd k hk).fr1 h e, W.ln⟩
theorem Many2.step {H1 : Hp} {k i : Nat} {d d2 : Addr} {ka kb : List (Key × V)} (W : Many2 n CD CS H PL S C Ch m) (A : ApartN n S) (hk : k < n) (hd : (S k).ds[i]? = some d) (hd2 : (S k).hs[i]? = some d2)
    (D1 : DbAt CD CS H1 (S k).p (PL k) (S k).sp (S k).de (S k).dr (S k).ds ((C k).set i ka)) (e : Fr1 d H H1) (l : ka.length ≤ m) (q : RowsEq (upd H1 d2 (.dK kb)) ka kb) :
    FrF [d, d2] H (upd H1 d2 (.dK kb)) ∧ KT H (upd H1 d2 (.dK kb)) ∧ (∀ (c : Addr) (xs : List V), H c = some (.lst xs) → upd H1 d2 (.dK kb) c = some (.lst xs)) ∧ Many2 n CD CS (upd H1 d2 (.dK kb)) PL S (setF C k i ka) (setF Ch k i kb) m := by
  have hdm : d ∈ (S k).dicts := List.mem_append.mpr (.inl (List.mem_of_getElem? hd))
  have hdm2 : d2 ∈ (S k).dicts := List.mem_append.mpr (.inr (List.mem_of_getElem? hd2))
  obtain ⟨u1, hu1⟩ := (W.sd k hk).dict hdm
  obtain ⟨u2, hu2⟩ := (W.sd k hk).dict hdm2
  have f : FrF [d, d2] H (upd H1 d2 (.dK kb)) := fun c o hc ho => by
    simp only [List.mem_cons, List.not_mem_nil, or_false, not_or] at hc
    rw [upd_ne hc.2]
    exact e c o hc.1 ho
  have nt : ∀ c ∈ [d, d2], ∀ xs, H c ≠ some (.tup xs) := fun c hc xs z => by
    simp only [List.mem_cons, List.not_mem_nil, or_false] at hc
    rcases hc with rfl | rfl
    · rw [hu1] at z
      cases z
    · rw [hu2] at z
      cases z
  have kt : KT H (upd H1 d2 (.dK kb)) := (f.kept (G := []) (fun c hc => by cases hc) nt).kt
  have ls : ∀ (c : Addr) (xs : List V), H c = some (.lst xs) → upd H1 d2 (.dK kb) c = some (.lst xs) := fun c xs h => f c _ (fun z => by
    simp only [List.mem_cons, List.not_mem_nil, or_false] at z
    rcases z with rfl | rfl
    · rw [hu1] at h
      cases h
    · rw [hu2] at h
      cases h) h
  refine ⟨f, kt, ls, fun j hj => ?_, fun j hj => ?_⟩
  · show Side2 CD CS _ (PL j) (S j) (if j = k then _ else _) (if j = k then _ else _)
    by_cases z : j = k
    · subst z
      rw [if_pos rfl, if_pos rfl]
      exact (W.sd j hj).step hd hd2 D1 e q
    · rw [if_neg z, if_neg z]
      refine (W.sd j hj).frf f nt fun c hc => ?_
      simp only [List.mem_cons, List.not_mem_nil, or_false] at hc
      rcases hc with rfl | rfl
      · exact A k j hk hj (fun w => z w.symm) _ hdm
      · exact A k j hk hj (fun w => z w.symm) _ hdm2
  · show ∀ kvs ∈ (if j = k then _ else _), _
    split
    · rename_i z
      subst z
      intro kvs hv
      rcases List.mem_or_eq_of_mem_set hv with h | rfl
      · exact W.ln j hj kvs h
      · exact l
    · exact W.ln j hj
end
def addF {α : Type} (f : Nat → α) (i : Nat) (x : α) : Nat → α := fun k => if k = i then x else f k
theorem addF_at {α : Type} (f : Nat → α) (i : Nat) (x : α) : addF f i x i = x := if_pos rfl
theorem addF_ne {α : Type} (f : Nat → α) (i : Nat) (x : α) {k : Nat} (h : k ≠ i) : addF f i x k = f k := if_neg h
structure Hn (i : Nat) (G H : Hp) (PL : Nat → Plan) (A : Nat → Addr) (hs : Nat → List Addr) : Prop where
  hd : ∀ k, k < i → HeldAt H (A k) (PL k) (hs k) (nils (PL k))
  free : ∀ k, k < i → ∀ d ∈ A k :: hs k, G d = none
  dj : ∀ k j, k < i → j < i → k ≠ j → ∀ d ∈ A k :: hs k, d ∉ A j :: hs j
section
variable {i n : Nat} {CD CS : Addr} {G H H' : Hp} {PL : Nat → Plan} {S : Nat → Side} {A : Nat → Addr} {hs : Nat → List Addr}
theorem Hn.zero : Hn 0 G H PL A hs := ⟨fun k h => absurd h (Nat.not_lt_zero _), fun k h => absurd h (Nat.not_lt_zero _), fun k j h => absurd h (Nat.not_lt_zero _)⟩
theorem Hn.same (Q : Hn i G H PL A hs) (e : Same H H') : Hn i G H' PL A hs := ⟨fun k hk => (Q.hd k hk).same e, Q.free, Q.dj⟩
theorem Hn.add (Q : Hn i G H PL A hs) (eG : Same G H) {a : Addr} {l : List Addr} (D : HeldAt H' a (PL i) l (nils (PL i))) (f : ∀ d ∈ a :: l, H d = none) (e : Same H H') : Hn (i + 1) G H' PL (addF A i a) (addF hs i l) := by
  refine ⟨fun k hk => ?_, fun k hk d hd => ?_, fun k j hk hj hkj d hd hm => ?_⟩
  · by_cases z : k = i
    · subst z
      rw [addF_at, addF_at]
      exact D
    · rw [addF_ne _ _ _ z, addF_ne _ _ _ z]
      exact (Q.hd k (by omega)).same e
  · by_cases z : k = i
    · subst z
      rw [addF_at, addF_at] at hd
      exact eG.free (f d hd)
    · rw [addF_ne _ _ _ z, addF_ne _ _ _ z] at hd
      exact Q.free k (by omega) d hd
  · have lv : ∀ k, k < i → ∀ c ∈ A k :: hs k, H c ≠ none := fun k hk c hc z => by
      obtain ⟨u, hu⟩ := (Q.hd k hk).live c hc
      rw [hu] at z
      cases z
    by_cases z : k = i
    · subst z
      rw [addF_at, addF_at] at hd
      rw [addF_ne _ _ _ (fun w => hkj w.symm), addF_ne _ _ _ (fun w => hkj w.symm)] at hm
      exact lv j (by omega) d hm (f d hd)
    · rw [addF_ne _ _ _ z, addF_ne _ _ _ z] at hd
      by_cases w : j = i
      · subst w
        rw [addF_at, addF_at] at hm
        exact lv k (by omega) d hd (f d hm)
      · rw [addF_ne _ _ _ w, addF_ne _ _ _ w] at hm
        exact Q.dj k j (by omega) (by omega) hkj d hd hm
theorem sides2_of (B : Bases n CD CS G PL S) (e : Same G H) (Q : Hn n G H PL A hs) :
    Many2 n CD CS H PL (sides S A hs) (fun k => nils (PL k)) (fun k => nils (PL k)) 0 ∧ ApartN n (sides S A hs) ∧ ∀ k, k < n → A k ∉ ft (S k) := by
  refine ⟨⟨fun k hk => Side2.of (((B.db k hk).same e)) (Q.hd k hk) (B.db k hk).live (Q.free k hk _ List.mem_cons_self) (fun d hd => Q.free k hk d (List.mem_cons_of_mem _ hd)) fun i a b h1 h2 => by
    rw [nils_at h1, nils_at h2]
    exact RowsEq.nil, fun k hk kvs h => by rw [nils_mem h]; exact Nat.le_refl _⟩, fun k j hk hj hkj c hc => ?_, fun k hk m => (B.db k hk).live _ m (Q.free k hk _ List.mem_cons_self)⟩
  have inF : ∀ k c, c ∈ (S k).ds → c ∈ ft (S k) := fun k c h => by simp [ft, foot, h]
  have inX : ∀ c, c ∈ (sides S A hs j).fix → c ∈ ft (S j) ∨ c = A j := fun c h => by
    simp only [sides, Side.fix, List.mem_cons, List.not_mem_nil, or_false] at h
    rcases h with rfl | rfl | rfl | rfl | rfl
    · exact .inl (by simp [ft, foot])
    · exact .inl (by simp [ft, foot])
    · exact .inl (by simp [ft, foot])
    · exact .inl (by simp [ft, foot])
    · exact .inr rfl
  rcases List.mem_append.mp hc with h | h
  · have h : c ∈ (S k).ds := h
    have lv := (B.db k hk).live c (inF k c h)
    refine ⟨fun m => ?_, fun m => ?_⟩
    · rcases inX c m with g | rfl
      · exact B.ap k j hk hj hkj c (inF k c h) g
      · exact lv (Q.free j hj _ List.mem_cons_self)
    · rcases List.mem_append.mp m with g | g
      · exact B.ap k j hk hj hkj c (inF k c h) (inF j c g)
      · exact lv (Q.free j hj c (List.mem_cons_of_mem _ g))
  · have h : c ∈ hs k := h
    refine ⟨fun m => ?_, fun m => ?_⟩
    · rcases inX c m with g | rfl
      · exact (B.db j hj).live c g (Q.free k hk c (List.mem_cons_of_mem _ h))
      · exact Q.dj k j hk hj hkj _ (List.mem_cons_of_mem _ h) List.mem_cons_self
    · rcases List.mem_append.mp m with g | g
      · exact (B.db j hj).live c (inF j c g) (Q.free k hk c (List.mem_cons_of_mem _ h))
      · exact Q.dj k j hk hj hkj c (List.mem_cons_of_mem _ h) (List.mem_cons_of_mem _ g)
end
end My
namespace My
open PySem L2
theorem cellD_inj2 : ∀ {cs ds : List (Option Int)}, cs.map cellV = ds.map cellV → cs = ds
  | [], [], _ => rfl
  | [], _ :: _, h => by simp at h
  | _ :: _, [], h => by simp at h
  | c :: cs, d :: ds, h => by
    rw [List.map_cons, List.map_cons] at h
    have h1 := (List.cons.inj h).1
    have h2 := cellD_inj2 (List.cons.inj h).2
    subst h2
    cases c <;> cases d
    · rfl
    · cases h1
    · cases h1
    · rw [V.int.inj h1]
theorem cellsD_inv2 : ∀ {H : Hp} {xs : List V} {cs : List (Option Int)}, TdAll H xs (cs.map cellD) → xs = cs.map cellV
  | _, _, [], h => by cases h; rfl
  | _, _, c :: cs, h => by
    cases h with
    | cons h1 h2 => rw [List.map_cons, ← cellsD_inv2 h2, cellD_inv h1]
theorem rowD_cells2 {H : Hp} {v : V} {l1 l2 : Int} {c1 c2 : List (Option Int)} (h1 : Td H v (rowD l1 c1)) (h2 : Td H v (rowD l2 c2)) : c1 = c2 := by
  obtain ⟨t, tc, xs, rfl, ht, hc, hx⟩ := rowD_inv h1
  obtain ⟨t', tc', xs', e, ht', hc', hx'⟩ := rowD_inv h2
  cases e
  rw [ht] at ht'
  have h := HO.tup.inj (Option.some.inj ht')
  have h3 : tc = tc' := V.ref.inj (List.cons.inj (List.cons.inj h).2).1
  subst h3
  rw [hc] at hc'
  have h4 := HO.tup.inj (Option.some.inj hc')
  subst h4
  exact cellD_inj2 ((cellsD_inv2 hx).symm.trans (cellsD_inv2 hx'))
end My
namespace My
open PySem L2
section
variable {n n' : Nat} {CD CS : Addr} {G H H' : Hp} {PL : Nat → Plan} {S : Nat → Side} {C : Nat → List (List (Key × V))} {m : Nat}
theorem Many.sel (W : Many n CD CS H PL S C m) (f : Nat → Nat) (hf : ∀ k, k < n' → f k < n) : Many n' CD CS H (fun k => PL (f k)) (fun k => S (f k)) (fun k => C (f k)) m := ⟨fun k hk => W.sd (f k) (hf k hk), fun k hk => W.ln (f k) (hf k hk)⟩
theorem ApartN.sel (A : ApartN n S) (f : Nat → Nat) (hf : ∀ k, k < n' → f k < n) (inj : ∀ k j, k < n' → j < n' → k ≠ j → f k ≠ f j) : ApartN n' (fun k => S (f k)) := fun k j hk hj hkj => A (f k) (f j) (hf k hk) (hf j hj) (inj k j hk hj hkj)
theorem SideAt.live {pl : Plan} {s : Side} {ct : List (List (Key × V))} (D : SideAt CD CS H pl s ct) : ∀ c, c ∈ s.fix ∨ c ∈ s.dicts → H c ≠ none := fun c hc => by
  rcases hc with h | h
  · simp only [Side.fix, List.mem_cons, List.not_mem_nil, or_false] at h
    rcases h with rfl | rfl | rfl | rfl | rfl
    · exact D.db.live _ (by simp [foot])
    · exact D.db.live _ (by simp [foot])
    · exact D.db.live _ (by simp [foot])
    · exact D.db.live _ (by simp [foot])
    · rw [D.hd.rws]
      intro z
      cases z
  · obtain ⟨u, hu⟩ := D.dict h
    rw [hu]
    intro z
    cases z
theorem SideAt.of2 {p sp de dr dh : Addr} {pl : Plan} {ds hs : List Addr} {ct : List (List (Key × V))} (D : DbAt CD CS H p pl sp de dr ds ct) (Hd : HeldAt H dh pl hs ct) (L : ∀ c ∈ dh :: hs, G c ≠ none) (n1 : ∀ c ∈ foot p sp de dr ds, G c = none) : SideAt CD CS H pl ⟨p, sp, de, dr, ds, dh, hs⟩ ct := by
  obtain ⟨dx, hp⟩ := D.ob
  obtain ⟨sdx, stv, skvs, s1, _⟩ := D.sch.ex
  have inF : ∀ c ∈ ds, c ∈ foot p sp de dr ds := fun c hc => by simp [foot, hc]
  refine ⟨D, Hd, List.nodup_append.mpr ⟨D.nd, Hd.nd, fun x hx y hy e => ?_⟩, fun d hd => ?_⟩
  · subst e
    exact L x (List.mem_cons_of_mem _ hy) (n1 x (inF x hx))
  · intro m
    simp only [Side.fix, List.mem_cons, List.not_mem_nil, or_false] at m
    rcases List.mem_append.mp hd with h | h
    · have hdk : ∃ u, H d = some (.dK u) := by
        obtain ⟨i, hi, ei⟩ := List.getElem_of_mem h
        have hi2 : i < ct.length := by rw [D.cl, ← D.dl]; exact hi
        exact ⟨_, D.at_ i d _ (by rw [List.getElem?_eq_getElem hi, ei]) (List.getElem?_eq_getElem hi2)⟩
      obtain ⟨u, hu⟩ := hdk
      rcases m with rfl | rfl | rfl | rfl | rfl
      · rw [hp] at hu
        cases hu
      · rw [s1] at hu
        cases hu
      · exact D.apart.2 h
      · exact D.apart.1 h
      · exact L _ List.mem_cons_self (n1 _ (inF _ h))
    · rcases m with rfl | rfl | rfl | rfl | rfl
      · exact L _ (List.mem_cons_of_mem _ h) (n1 _ (by simp [foot]))
      · exact L _ (List.mem_cons_of_mem _ h) (n1 _ (by simp [foot]))
      · exact L _ (List.mem_cons_of_mem _ h) (n1 _ (by simp [foot]))
      · exact L _ (List.mem_cons_of_mem _ h) (n1 _ (by simp [foot]))
      · exact Hd.apart h
theorem Many.add {pl : Plan} {s : Side} {ct : List (List (Key × V))} (W : Many n CD CS H PL S C m) (A : ApartN n S) (e : Same H H') (hp : PL n = pl) (D : SideAt CD CS H' pl s ct) (fr : ∀ c, c ∈ s.fix ∨ c ∈ s.dicts → H c = none) (l : ∀ kvs ∈ ct, kvs.length ≤ m) :
    Many (n + 1) CD CS H' PL (addF S n s) (addF C n ct) m ∧ ApartN (n + 1) (addF S n s) := by
  refine ⟨⟨fun k hk => ?_, fun k hk => ?_⟩, fun k j hk hj hkj c hc => ?_⟩
  · by_cases z : k = n
    · subst z
      rw [addF_at, addF_at, hp]
      exact D
    · rw [addF_ne _ _ _ z, addF_ne _ _ _ z]
      exact (W.sd k (by omega)).same e
  · by_cases z : k = n
    · subst z
      rw [addF_at]
      exact l
    · rw [addF_ne _ _ _ z]
      exact W.ln k (by omega)
  · by_cases z : k = n
    · subst z
      rw [addF_at] at hc
      rw [addF_ne _ _ _ (fun w => hkj w.symm)]
      have hn := fr c (.inr hc)
      exact ⟨fun q => (W.sd j (by omega)).live c (.inl q) hn, fun q => (W.sd j (by omega)).live c (.inr q) hn⟩
    · rw [addF_ne _ _ _ z] at hc
      by_cases w : j = n
      · subst w
        rw [addF_at]
        have hl := (W.sd k (by omega)).live c (.inr hc)
        exact ⟨fun q => hl (fr c (.inl q)), fun q => hl (fr c (.inr q))⟩
      · rw [addF_ne _ _ _ w]
        exact A k j (by omega) (by omega) hkj c hc
end
theorem cut_last2 (xs : List V) (h : 1 ≤ xs.length) : cutV xs (some (-2)) none = xs.drop (xs.length - 2) := by
  unfold cutV
  rw [HT.sIx_none]
  have : HT.sIx xs.length 0 (some (-2)) = xs.length - 2 := by
    unfold HT.sIx
    simp
    omega
  rw [this]
  exact List.take_of_length_le (by rw [List.length_drop]; exact Nat.le_refl _)
structure CopyAt (H0 : Hp) (A : Addr) (pl : Plan) (ct : List (List (Key × V))) (j : Nat) (hs : List Addr) (H : Hp) : Prop where
  le : j ≤ pl.length
  hl : hs.length = j
  nd : hs.Nodup
  ds : ∀ d ∈ hs, H0 d = none ∧ d ≠ A
  ct_ : ∀ (i : Nat) (d : Addr) (kvs : List (Key × V)), hs[i]? = some d → ct[i]? = some kvs → H d = some (.dK kvs)
  at_ : H A = some (.dK (rowsK (pl.take j) hs))
  fr : Fr1 A H0 H
theorem CopyAt.start {H0 : Hp} {A : Addr} (pl : Plan) (ct : List (List (Key × V))) (h : H0 A = some (.dK [])) : CopyAt H0 A pl ct 0 [] H0 := ⟨Nat.zero_le _, rfl, List.nodup_nil, by simp, by simp, h, Fr1.refl _ _⟩
theorem CopyAt.live {H0 H : Hp} {A : Addr} {pl : Plan} {ct : List (List (Key × V))} {j : Nat} {hs : List Addr} (F : CopyAt H0 A pl ct j hs H) (cl : ct.length = pl.length) : ∀ d ∈ hs, ∃ u, H d = some (.dK u) := fun d hd => by
  obtain ⟨i, hi, ei⟩ := List.getElem_of_mem hd
  have h1 := F.hl
  have h2 := F.le
  exact ⟨_, F.ct_ i d ct[i] (by rw [List.getElem?_eq_getElem hi, ei]) (List.getElem?_eq_getElem (by omega))⟩
theorem CopyAt.no {H0 H : Hp} {A : Addr} {pl : Plan} {ct : List (List (Key × V))} {j : Nat} {hs : List Addr} (F : CopyAt H0 A pl ct j hs H) (nd : (pl.map (·.1)).Nodup) {en : Ent} (hen : pl[j]? = some en) : valV (rowsK (pl.take j) hs) (Sum.inr en.1 : Key) = none := by
  have hjp : j < pl.length := (List.getElem?_eq_some_iff.mp hen).1
  refine valV_no (rowsK_keys (by rw [List.length_take, F.hl]; omega)) fun hm => ?_
  obtain ⟨e2, he2, ee⟩ := List.mem_map.mp hm
  obtain ⟨m, hm2, em⟩ := List.getElem_of_mem he2
  rw [List.getElem_take] at em
  have hmj : m < j := by
    rw [List.length_take] at hm2
    omega
  obtain ⟨l2, g2⟩ := List.getElem?_eq_some_iff.mp hen
  have a1 : (pl.map (·.1))[m]'(by rw [List.length_map]; omega) = (pl.map (·.1))[j]'(by rw [List.length_map]; omega) := by
    rw [List.getElem_map, List.getElem_map, g2, em, ee]
  have := (List.getElem_inj nd).mp a1
  omega
end My
namespace My
open PySem PySem.Spec PyProof.Rows L2
def rMaxDD : List V → List V → Hp → VK → Prop := fun xs zs H Q => ∃ (a : Addr) (kvs : List (Key × V)) (ks : List Int) (d : Int), xs = [.ref a] ∧ zs = [.int d] ∧ Rd H a (.dK kvs) ∧ kvs.map (·.1) = ks.map Sum.inl ∧ (ks = [] → Q (.int d) H) ∧ (∀ m ∈ ks, (∀ y ∈ ks, y ≤ m) → Q (.int m) H)
theorem cr_maxDD {X : Cx} (hcalm : X.calm = true) : CallRK X (.builtin "max") [Str.ofString "default"] rMaxDD := by
  intro pins s σ H xs zs us ws Q I r rz h
  obtain ⟨a, kvs, ks, d, rfl, rfl, hd, hks, q0, q1⟩ := h
  obtain ⟨u, rfl, rx⟩ := vals1 r
  obtain rfl : u = Value.ref a := rx
  obtain ⟨wd, rfl, rd⟩ := vals1 rz
  obtain ⟨z, lo, vs, rel, dd⟩ := dk_rd I.hok hd
  obtain ⟨ep, hat⟩ := dd.dictAt
  have hkeys : vs.map (·.1) = ks.map Sum.inl := rel.keys.symm.trans hks
  have hl : vs.length = ks.length := by
    have e := congrArg List.length hkeys
    rw [List.length_map, List.length_map] at e
    exact e
  have hint : ∀ i v, (∃ k x, vs[i]? = some (k, x) ∧ (mixKind X.prog X.w).is k v = true) → i < ks.length ∧ ∃ t, v = Value.int (ks.getD i 0) t := by
    rintro i v ⟨k, x, e1, e2⟩
    have hi : i < ks.length := by rw [← hl]; exact (List.getElem?_eq_some_iff.mp e1).1
    refine ⟨hi, ?_⟩
    have e3 : (vs.map (·.1))[i]? = some k := by rw [List.getElem?_map, e1]; rfl
    rw [hkeys, List.getElem?_map, List.getElem?_eq_getElem hi] at e3
    have e5 : Sum.inl ks[i] = k := Option.some.inj e3
    subst e5
    have e6 : ks.getD i 0 = ks[i] := by rw [List.getD_eq_getElem?_getD, List.getElem?_eq_getElem hi]; rfl
    rw [e6]
    rcases keyIs_shape (show keyIs (Sum.inl ks[i]) v = true from e2) with ⟨j, t, ek, ev⟩ | ⟨j, t, ek, ev⟩
    · cases ek
      exact ⟨t, ev⟩
    · cases ek
  show wpAny _ X.A (call (.builtin "max") [.ref a] [(Str.ofString "default", wd)]) _ _ _
  refine call_max_walkD (wpAny_pyIter_dict lo hat ?_)
  have hne := hat.lt_size
  refine ⟨s.heap.objs.size, _, _, _, vs.length, _, _, s.heap, (fun i j => decide (ks.getD i 0 > ks.getD j 0)), rfl, (Walks.dictKeys (knd := mixKind X.prog X.w) (A := X.A.in1) (by simp [I.ok.hd hcalm]) _ a (Nat.ne_of_lt hne) vs ep).toS, ⟨⟨_, Heap.get?_push_size _ rfl, rfl, rfl⟩, hat.push _⟩, fun b hb => ?_, fun b o e hb => ?_, fun b o e => Heap.get?_push_of_some _ e, fun hz s' m => ?_, fun hp => ⟨fun i j vi vj s' Q' E' _ hi hj hq => ?_, fun v s' hP m => ?_⟩⟩
  · show b < (s.heap.push _).objs.size
    rw [Heap.size_push]
    rcases List.mem_cons.mp hb with rfl | hb
    · exact Nat.lt_succ_self _
    · rw [List.mem_singleton.mp hb]
      exact Nat.lt_succ_of_lt hne
  · rw [List.mem_singleton.mp hb] at e
    exact absurd (Heap.lt_size e) (Nat.lt_irrefl _)
  · obtain ⟨h', tk, rfl, hk'⟩ := PySem.W.moved_old rfl rfl m
    exact ⟨.int d, H, I.kept hk', rd, q0 (List.eq_nil_of_length_eq_zero (by omega))⟩
  · obtain ⟨hi1, t1, rfl⟩ := hint i vi hi
    obtain ⟨hj1, t2, rfl⟩ := hint j vj hj
    exact PyProof.Rows.gt_int hq
  · obtain ⟨h', tk, rfl, hk'⟩ := PySem.W.moved_old rfl rfl m
    obtain ⟨hi1, t1, rfl⟩ := hint _ v hP
    obtain ⟨h1, h2⟩ := PySem.argBest_gt (fun i => ks.getD i 0) (vs.length - 1)
    refine ⟨.int _, H, I.kept hk', ⟨t1, rfl⟩, q1 _ ?_ fun y hy => ?_⟩
    · rw [List.getD_eq_getElem?_getD, List.getElem?_eq_getElem hi1]
      exact List.getElem_mem hi1
    · obtain ⟨j, hj, ej⟩ := List.getElem_of_mem hy
      have := h2 j (by omega)
      have e6 : ks.getD j 0 = y := by rw [List.getD_eq_getElem?_getD, List.getElem?_eq_getElem hj]; exact ej
      rw [e6] at this
      exact this
end My
namespace My
open PySem PySem.Spec PyProof.Rows L2
def rEqE : R2 := fun x y H Q => ∃ (a b : Addr) (ks : List (Key × V)), x = .ref a ∧ y = .ref b ∧ H a = some (.dK ks) ∧ H b = some (.dK []) ∧ Q (.bl ks.isEmpty) H
def rNeE : R2 := fun x y H Q => ∃ (a b : Addr) (ks : List (Key × V)), x = .ref a ∧ y = .ref b ∧ H a = some (.dK ks) ∧ H b = some (.dK []) ∧ Q (.bl (!ks.isEmpty)) H
section
variable {X : Cx}
theorem op_eqE (hu : X.A.units < cLine) : OpR X (compareOp .Eq) rEqE := by
  intro pins s σ H x y v u Q I rx ry h
  obtain ⟨a, b, ks, rfl, rfl, ea, eb, q⟩ := h
  obtain rfl : v = Value.ref a := rx
  obtain rfl : u = Value.ref b := ry
  obtain ⟨_, ya, va, ra, da⟩ := (show ObjOk X.prog X.w H s.heap a (.dK ks) from I.hok a _ ea)
  obtain ⟨_, yb, vb, rb, db⟩ := (show ObjOk X.prog X.w H s.heap b (.dK []) from I.hok b _ eb)
  have l1 := ra.length
  have l2 := rb.length
  refine PySem.W.keq_eq (knd := mixKind X.prog X.w) (r := true) ya yb da db hu (fun e => hits_all rb ra fun p hp => ?_) (fin_bl I q ?_)
  · have : ks = [] := List.eq_nil_of_length_eq_zero (by rw [l1, e, ← l2]; rfl)
    rw [this] at hp
    cases hp
  · rw [← l1, ← l2]
    cases ks <;> simp
theorem op_neE (hu : X.A.units < cLine) : OpR X (compareOp .NotEq) rNeE := by
  intro pins s σ H x y v u Q I rx ry h
  obtain ⟨a, b, ks, rfl, rfl, ea, eb, q⟩ := h
  obtain rfl : v = Value.ref a := rx
  obtain rfl : u = Value.ref b := ry
  obtain ⟨_, ya, va, ra, da⟩ := (show ObjOk X.prog X.w H s.heap a (.dK ks) from I.hok a _ ea)
  obtain ⟨_, yb, vb, rb, db⟩ := (show ObjOk X.prog X.w H s.heap b (.dK []) from I.hok b _ eb)
  have l1 := ra.length
  have l2 := rb.length
  refine PySem.W.keq_ne (knd := mixKind X.prog X.w) (r := true) ya yb da db hu (fun e => hits_all rb ra fun p hp => ?_) (fin_bl I q ?_)
  · have : ks = [] := List.eq_nil_of_length_eq_zero (by rw [l1, e, ← l2]; rfl)
    rw [this] at hp
    cases hp
  · rw [← l1, ← l2]
    cases ks <;> simp
end
end My
namespace My
open PySem PySem.Spec PyProof.Rows L2
open PySem.AutoSeq1 (wpAny_loadPart')
section
variable {prog : Program} {w : World} {A : Around} {R : Result → Shared → Prop} {s : Shared} {x dx C : Addr}
theorem dec_int (a : Int) (t : Tok) (hl : s.heap.get? x = some (PySem.W.instObj C dx)) (h : R (.ok (.ret .notImplemented)) s) : wpAny (model prog w) A.in1 (Builtin.«int.__eq__» ⟨[.int a t, .ref x], []⟩) (GQ.FinOf prog w A R) (fun e s' => R (.error e) s') s := by
  obtain ⟨hp, g, d, tk, os⟩ := s
  wp_walk using wpAny_loadPart' hl, wpAny_load hl
  exact h
theorem dec_bool (a : Bool) (hl : s.heap.get? x = some (PySem.W.instObj C dx)) (h : R (.ok (.ret .notImplemented)) s) : wpAny (model prog w) A.in1 (Builtin.«int.__eq__» ⟨[.bool a, .ref x], []⟩) (GQ.FinOf prog w A R) (fun e s' => R (.error e) s') s := by
  obtain ⟨hp, g, d, tk, os⟩ := s
  wp_walk using wpAny_loadPart' hl, wpAny_load hl
  exact h
theorem dec_str (a : Str) (t : Tok) (hl : s.heap.get? x = some (PySem.W.instObj C dx)) (h : R (.ok (.ret .notImplemented)) s) : wpAny (model prog w) A.in1 (Builtin.«str.__eq__» ⟨[.str a t, .ref x], []⟩) (GQ.FinOf prog w A R) (fun e s' => R (.error e) s') s := by
  obtain ⟨hp, g, d, tk, os⟩ := s
  wp_walk using wpAny_loadPart' hl, wpAny_load hl
  exact h
theorem dec_tuple {l : Addr} (hl : s.heap.get? x = some (PySem.W.instObj C dx)) (L2 : PySem.W.Looks (model prog w) s.heap (isSubtype (.ref C) (.type "tuple")) false)
    (h : R (.ok (.ret .notImplemented)) s) : wpAny (model prog w) A.in1 (Builtin.«tuple.__eq__» ⟨[.ref l, .ref x], []⟩) (GQ.FinOf prog w A R) (fun e s' => R (.error e) s') s := by
  obtain ⟨hp, g, d, tk, os⟩ := s
  wp_walk using wpAny_loadPart' hl, wpAny_load hl
  refine L2.here ?_
  wp_walk
  exact h
theorem dec_list {l : Addr} (hl : s.heap.get? x = some (PySem.W.instObj C dx)) (L2 : PySem.W.Looks (model prog w) s.heap (isSubtype (.ref C) (.type "list")) false)
    (h : R (.ok (.ret .notImplemented)) s) : wpAny (model prog w) A.in1 (Builtin.«list.__eq__» ⟨[.ref l, .ref x], []⟩) (GQ.FinOf prog w A R) (fun e s' => R (.error e) s') s := by
  obtain ⟨hp, g, d, tk, os⟩ := s
  wp_walk using wpAny_loadPart' hl, wpAny_load hl
  refine L2.here ?_
  wp_walk
  exact h

theorem rc_back {E : Value → Shared → Prop} {K : PySem.W.Frag} {T : String} {id : String} {a : Value} {f : Addr} {ox : Obj} {od : Option Obj} {Q : Value → Shared → Prop} (ha : s.TypeIs a T) (X : K.In s.heap) (I : PySem.W.InstAt s.heap x ox C od)
    (hsub : PySem.W.subIn K (.ref C) (.type T) = some false) (h1 : Slot T "__eq__" id) (hu : A.units < cLine)
    (hc : ∀ Q' : Value → Shared → Prop, Q' .notImplemented s → wpAny (model prog w) A (call (.builtin id) [a, .ref x]) Q' E s)
    (hs : PySem.W.findIn K (.ref C) "__eq__" = some (some (.ref f))) (hf : PySem.W.isFn K (.ref f) = true)
    (h : wpAny (model prog w) A (call (.ref f) [.ref x, a]) (PySem.W.CmpBack Q) E s) : wpAny (model prog w) A (richCompare .Eq a (.ref x)) Q E s := by
  have one : wpAny (model prog w) A (tryCompare a "__eq__" (.ref x)) (fun r s' => r = none ∧ s' = s) E s := wpAny_tryCompare_declines ha h1 (hc _ ⟨rfl, rfl, rfl⟩)
  have two : wpAny (model prog w) A (tryCompare (.ref x) "__eq__" a) (fun r s' => ∃ v, r = some v ∧ Q v s') E s := by
    unfold tryCompare
    refine wpAny_bind (PySem.W.ifBound_K X I hs hf (wpAny_mono h (fun v s' hv => ?_) fun _ _ e => e))
    cases v <;> first | exact hv.elim | exact wpAny_pure ⟨_, rfl, hv⟩
  simp only [richCompare, cmpInfo_Eq, ha.oneThing_none]
  refine wpAny_holding (wpAny_bind (wpAny_cRoomFor hu ?_))
  refine wpAny_bind (wpAny_typeOf ha ?_)
  refine wpAny_bind (I.type.here ?_)
  split
  · refine wpAny_bind ((PySem.W.looks_subIn X hsub).here ?_)
    simp only [Bool.false_eq_true, if_false, Bool.not_false, if_true]
    refine wpAny_bind (m := tryCompare a _ (.ref x)) (wpAny_mono one (fun r s1 z => ?_) fun _ _ e => e)
    obtain ⟨z1, z2⟩ := z
    subst z1
    subst z2
    refine wpAny_bind (m := tryCompare (.ref x) _ a) (wpAny_mono two (fun r s2 z => ?_) fun _ _ e => e)
    obtain ⟨v, rfl, hq⟩ := z
    exact wpAny_pure hq
  · rename_i q
    exact absurd (by simp) q
end
def noTy (K : PySem.W.Frag) (C : Addr) : Bool := ["NoneType", "int", "bool", "str", "tuple", "list"].all fun n => PySem.W.subIn K (.ref C) (.type n) == some false
theorem noTy_at {K : PySem.W.Frag} {C : Addr} (h : noTy K C = true) {T : String} (hT : T ∈ ["NoneType", "int", "bool", "str", "tuple", "list"]) : PySem.W.subIn K (.ref C) (.type T) = some false :=
  beq_iff_eq.mp (List.all_eq_true.mp h T hT)
inductive Pl (H : Hp) : V → Prop where
  | non : Pl H .non
  | int (i : Int) : Pl H (.int i)
  | bl (b : Bool) : Pl H (.bl b)
  | str (w : Str) : Pl H (.str w)
  | tup {a : Addr} {xs : List V} (h : H a = some (.tup xs)) : Pl H (.ref a)
  | lst {a : Addr} {xs : List V} (h : H a = some (.lst xs)) : Pl H (.ref a)
theorem subTy {K : PySem.W.Frag} {C : Addr} {T : String} {l : List Value} (h : fastBuiltinMro T = some l) (n : l.all (fun v => !onTheHeap v) = true) : PySem.W.subIn K (.type T) (.ref C) = some false := by
  show (fastBuiltinMro T).map (·.contains (.ref C)) = some false
  rw [h]
  have : l.contains (Value.ref C) = false := by
    refine Bool.eq_false_iff.mpr fun z => ?_
    have := List.all_eq_true.mp n _ (List.contains_iff_mem.mp z)
    cases this
  rw [Option.map_some, this]
section
variable {X : Cx} {k : Nat} {C : Addr} {sp : Sp}
theorem back_of {Q : VK} {pins : List (Addr × Obj)} {σ : L2.St} {f : Addr} {fd : FuncData} {ps : List Str} {H : Hp} {s : Shared} {u1 u2 : Value} {x y : V} (F : FnOk X.prog X.w X.K X.mg X.base CX0 k f fd ps sp) (hr : Room k X.A) (hb : Binds X.K fd ps [])
    (I : Inv X pins σ H s) (r1 : RelV x u1) (r2 : RelV y u2) (h : sp [x, y] H (fun v H2 => ∃ b, v = .bl b ∧ Q (.bl b) H2) E0) : wpAny (model X.prog X.w) X.A (call (.ref f) [u1, u2]) (PySem.W.CmpBack (EP X pins σ Q)) X.xe s := by
  refine thn (run_fn (us := [u1, u2]) (vs := [x, y]) F hr hb .nil pass0 I (.cons r1 (.cons r2 .nil)) h) fun v s1 ⟨z, H1, I1, r1, b, ez, q⟩ => ?_
  subst ez
  cases r1
  exact ⟨.bl b, H1, I1, rfl, q⟩
def rEqL (K : PySem.W.Frag) (C : Addr) (sp : Sp) : R2 := fun x y H Q => ∃ a dx fs, x = .ref a ∧ H a = some (.ins C dx fs) ∧ (Pl H y ∨ ∃ b C' dy gs, y = .ref b ∧ H b = some (.ins C' dy gs) ∧ PySem.W.notFirst K C (.ref C') = true) ∧ sp [x, y] H (fun v H2 => ∃ b, v = .bl b ∧ Q (.bl b) H2) E0
theorem op_eqL (G : MethOk X.prog X.w X.K X.mg X.base k C "__eq__" sp) (hr : Room k X.A) : OpR X (compareOp .Eq) (rEqL X.K C sp) := by
  obtain ⟨f, fd, ps, FF, hm, hb, c⟩ := G.ex
  intro pins s σ H x y v u Q I rx ry h
  obtain ⟨a, dx, fs, rfl, ha, hy, h⟩ := h
  obtain rfl : v = Value.ref a := rx
  obtain ⟨m, fr⟩ := I.fr
  obtain ⟨mA, O, _⟩ := ins_get I.hok ha
  obtain ⟨od, J, _⟩ := O.look
  show wpAny (model X.prog X.w) X.A (richCompare .Eq (.ref a) u) (EP X pins σ Q) X.xe s
  have go := back_of (Q := Q) FF hr hb I (show RelV (.ref a) (.ref a) from rfl) ry h
  have fin : ∀ t, TyOf X.K H y (.type t) → (∃ l, fastBuiltinMro t = some l ∧ l.all (fun v => !onTheHeap v) = true) → wpAny (model X.prog X.w) X.A (richCompare .Eq (.ref a) u) (EP X pins σ Q) X.xe s := fun t ht ⟨l, e1, e2⟩ => by
    obtain ⟨P, Z, p, _⟩ := kit_of I ry (.base ht)
    exact PySem.W.cmp_K (op := .Eq) (tb := .type t) hr.units0 fr I.ok.mod.kin J (Z.ty _ _ I.kIn p) (Bool.or_eq_true_iff.mpr (.inr (beq_iff_eq.mpr (subTy e1 e2)))) hm.at_ hm.fn go
  rcases hy with hy | ⟨b, C', dy, gs, rfl, hb', hn⟩
  · cases hy with
    | non => exact fin _ .non ⟨_, rfl, by decide +kernel⟩
    | int i => exact fin _ (.int i) ⟨_, rfl, by decide +kernel⟩
    | bl i => exact fin _ (.bl i) ⟨_, rfl, by decide +kernel⟩
    | str i => exact fin _ (.str i) ⟨_, rfl, by decide +kernel⟩
    | tup h' => exact fin _ (.tup h') ⟨_, rfl, by decide +kernel⟩
    | lst h' => exact fin _ (.lst h') ⟨_, rfl, by decide +kernel⟩
  · obtain rfl : u = Value.ref b := ry
    obtain ⟨mB, O', _⟩ := ins_get I.hok hb'
    obtain ⟨od', J', _⟩ := O'.look
    exact PySem.W.cmp_K (op := .Eq) (tb := .ref C') hr.units0 fr I.ok.mod.kin J J'.type hn hm.at_ hm.fn go
def rEqR (C : Addr) (sp : Sp) : R2 := fun x y H Q => ∃ a dx fs, y = .ref a ∧ H a = some (.ins C dx fs) ∧ Pl H x ∧ sp [y, x] H (fun v H2 => ∃ b, v = .bl b ∧ Q (.bl b) H2) E0
theorem op_eqR (G : MethOk X.prog X.w X.K X.mg X.base k C "__eq__" sp) (hr : Room k X.A) (nt : noTy X.K C = true) : OpR X (compareOp .Eq) (rEqR C sp) := by
  obtain ⟨f, fd, ps, FF, hm, hb, c⟩ := G.ex
  intro pins s σ H x y v u Q I rx ry h
  obtain ⟨a, dx, fs, rfl, ha, hx, h⟩ := h
  obtain rfl : u = Value.ref a := ry
  obtain ⟨m, fr⟩ := I.fr
  obtain ⟨mA, O, _⟩ := ins_get I.hok ha
  obtain ⟨od, J, _⟩ := O.look
  have ho := O.obj
  have go := back_of (Q := Q) FF hr hb I (show RelV (.ref a) (.ref a) from rfl) rx h
  have nt' := fun T hT => noTy_at nt (T := T) hT
  show wpAny (model X.prog X.w) X.A (richCompare .Eq v (.ref a)) (EP X pins σ Q) X.xe s
  cases hx with
  | non =>
    obtain rfl : v = Value.none := rx
    exact rc_back (T := "NoneType") rfl I.kIn J (nt' _ (by simp)) PySem.F.slot_NoneType_eq_refl hr.units0 (fun Q' q => call_gives PySem.F.slot_NoneType_eq_refl rfl PySem.F.entry_NoneType_eq (PySem.F.args_NoneType_eq_2 _ _) (PySem.SeqAt.NoneType___eq___none_ref_0 a) q) hm.at_ hm.fn go
  | int i =>
    obtain ⟨t, rfl⟩ := (show ∃ t, v = Value.int i t from rx)
    exact rc_back (T := "int") rfl I.kIn J (nt' _ (by simp)) PySem.F.slot_int_eq hr.units0 (fun Q' q => GQ.call_here PySem.F.slot_int_eq rfl PySem.F.entry_int_eq (PySem.F.args_int_eq_2 _ _) (dec_int i t ho q)) hm.at_ hm.fn go
  | bl i =>
    obtain rfl : v = Value.bool i := rx
    exact rc_back (T := "bool") rfl I.kIn J (nt' _ (by simp)) PySem.F.slot_bool_eq hr.units0 (fun Q' q => GQ.call_here PySem.F.slot_bool_eq rfl PySem.F.entry_int_eq (PySem.F.args_int_eq_2 _ _) (dec_bool i ho q)) hm.at_ hm.fn go
  | str i =>
    obtain ⟨t, rfl⟩ := (show ∃ t, v = Value.str i t from rx)
    exact rc_back (T := "str") rfl I.kIn J (nt' _ (by simp)) PySem.F.slot_str_eq hr.units0 (fun Q' q => GQ.call_here PySem.F.slot_str_eq rfl PySem.F.entry_str_eq (PySem.F.args_str_eq_2 _ _) (dec_str i t ho q)) hm.at_ hm.fn go
  | @tup b xs hb' =>
    obtain rfl : v = Value.ref b := rx
    obtain ⟨_, _, _, o, h1, h2, _⟩ := (show ObjOk X.prog X.w H s.heap b (.tup xs) from I.hok b _ hb')
    exact rc_back (T := "tuple") ⟨o, h1, h2⟩ I.kIn J (nt' _ (by simp)) PySem.F.slot_tuple_eq hr.units0 (fun Q' q => GQ.call_here PySem.F.slot_tuple_eq ⟨o, h1, h2⟩ PySem.F.entry_tuple_eq (PySem.F.args_tuple_eq_2 _ _) (dec_tuple ho (PySem.W.looks_subIn I.kIn (nt' _ (by simp))) q)) hm.at_ hm.fn go
  | @lst b xs hb' =>
    obtain rfl : v = Value.ref b := rx
    obtain ⟨_, _, n, _, h1⟩ := (show ObjOk X.prog X.w H s.heap b (.lst xs) from I.hok b _ hb')
    exact rc_back (T := "list") ⟨_, h1, rfl⟩ I.kIn J (nt' _ (by simp)) PySem.F.slot_list_eq hr.units0 (fun Q' q => GQ.call_here PySem.F.slot_list_eq ⟨_, h1, rfl⟩ PySem.F.entry_list_eq (PySem.F.args_list_eq_2 _ _) (dec_list ho (PySem.W.looks_subIn I.kIn (nt' _ (by simp))) q)) hm.at_ hm.fn go
end
end My
namespace My
open PySem PySem.Spec PyProof.Rows L2
open PySem.AutoSeq1 (wpAny_loadPart')
theorem meets_enumerate_newT (l : Addr) (items : Array Value) (n : Nat) (dct : Option Addr) (sl : Array (Option Value)) :
    Meets (Builtin.«enumerate.__new__» ⟨[.type "enumerate", .ref l], []⟩) (fun _ R s => s.heap.get? l = some { cls := .type "tuple", dict := dct, data := .seq items n, slots := sl } ∧
      R (.ok (.ret (.ref (s.heap.push { cls := .type "tuple_iterator", data := .fields #[.ref l, .int 0 0] }).objs.size)))
        { s with heap := (s.heap.push { cls := .type "tuple_iterator", data := .fields #[.ref l, .int 0 0] }).push { cls := .type "enumerate", data := .fields #[.none, .bool false, .ref s.heap.objs.size, rawInt 0, .none, .none] } }) :=
  .of_wp fun prog w A R s h => by
    obtain ⟨hp, g, d, tk, os⟩ := s; obtain ⟨hl, h⟩ := h
    have hsub := sub_enumerate
    have hL : Heap.IsTuple (Shared.heap ⟨hp, g, d, tk, os⟩) l items := ⟨_, hl, rfl, n, rfl⟩
    wp_walk using wpAny_loadPart' hl
    refine wpAny_stack_any fun st => wpAny_pure ?_
    split
    · rename_i c _ _ _ _ _
      cases (c == Value.type "enumerate")
      · wp_walk using wpAny_loadPart' hl, wpAny_pyIter_tuple hL
        exact ⟨_, rfl, h⟩
      · wp_walk using wpAny_loadPart' hl, wpAny_pyIter_tuple hL
        exact ⟨_, rfl, h⟩
    · wp_walk using wpAny_loadPart' hl, wpAny_pyIter_tuple hL
      exact ⟨_, rfl, h⟩
theorem call_enumerate_tup {prog : Program} {w : World} {A : Around} {E : Value → Shared → Prop} {s : Shared} {l : Addr} {items : Array Value} {Q : Value → Shared → Prop} (hL : s.heap.IsTuple l items)
    (h : ∀ h', IsEnum h' (s.heap.objs.size + 1) s.heap.objs.size 0 .none → h'.IsTupleIter s.heap.objs.size l 0 → h'.objs.size = s.heap.objs.size + 2 →
      (∀ b o, s.heap.get? b = some o → h'.get? b = some o) → Q (.ref (s.heap.objs.size + 1)) { s with heap := h' }) :
    wpAny (model prog w) A (call (.type "enumerate") [.ref l]) Q E s := by
  obtain ⟨⟨c, dct, dt, sl⟩, hl, hc, n, hd⟩ := hL
  replace hc : c = .type "tuple" := hc
  replace hd : dt = .seq items n := hd
  subst hc hd
  refine callType_new PySem.F.called_enumerate (by decide) (PySem.F.typeCall_enumerate_1 _) (PySem.F.newCall_enumerate_1 _) (fun obj => PySem.F.args_object_init_2 obj _) PySem.F.entry_enumerate_new
    (meets_enumerate_newT l items n dct sl) ⟨hl, ?_⟩
  have hz : (s.heap.push { cls := .type "tuple_iterator", data := .fields #[.ref l, .int 0 0] }).objs.size = s.heap.objs.size + 1 := Heap.size_push ..
  show _ ∧ _
  rw [hz]
  have he : IsEnum ((s.heap.push { cls := .type "tuple_iterator", data := .fields #[.ref l, .int 0 0] }).push
      { cls := .type "enumerate", data := .fields #[.none, .bool false, .ref s.heap.objs.size, rawInt 0, .none, .none] }) (s.heap.objs.size + 1) s.heap.objs.size 0 .none := by
    have := Heap.get?_push_size (s.heap.push { cls := .type "tuple_iterator", data := .fields #[.ref l, .int 0 0] })
      (o := { cls := .type "enumerate", data := .fields #[.none, .bool false, .ref s.heap.objs.size, rawInt 0, .none, .none] }) rfl
    rw [hz] at this; exact this
  refine ⟨⟨_, he, rfl⟩, h _ he ⟨_, Heap.get?_push_of_some _ (Heap.get?_push_size _ rfl), rfl, rfl⟩ (by rw [Heap.size_push, hz]) fun b o x => Heap.get?_push_of_some _ (Heap.get?_push_of_some _ x)⟩
def IteT (K : PySem.W.Frag) (a : Addr) : It :=
  ⟨fun i H => ∃ (xs : List V) (x : V), SqT K H a xs ∧ xs[i]? = some x, fun i H v H' => ∃ T x, v = .ref T ∧ H T = none ∧ H' = upd H T (.tup [.int (i : Nat), x]) ∧ ∀ xs, SqT K H a xs → xs[i]? = some x, fun i H => ∃ xs : List V, SqT K H a xs ∧ xs.length ≤ i⟩
theorem turn_enumT {P : Program} {w : World} {K : PySem.W.Frag} {elts : List Expr} {kk : Nat} {tpos : Pos} (a e it : Addr) :
    Turn P w K (.Tuple elts kk tpos) (IteT K a) [e, it] e (fun i h => (∃ old, IsEnum h e it ((i : Nat) : Int) old) ∧ h.IsTupleIter it a i ∧ e ≠ it) where
  mem := by simp
  obj := fun i h st b hb => by
    obtain ⟨⟨old, he⟩, ⟨o, ho, hc, hd⟩, _⟩ := st
    have e' : b = e ∨ b = it := by simpa using hb
    rcases e' with z | z
    · rw [z]; exact ⟨_, he, fun v q => nomatch q⟩
    · rw [z]; exact ⟨o, ho, fun v q => by rw [hd] at q; cases q⟩
  keep := fun i h h' st k => let ⟨⟨old, he⟩, hi, hne⟩ := st; ⟨⟨old, k e (by simp) _ he⟩, hi.at fun o q => k it (by simp) o q, hne⟩
  item := by
    intro X hP hw hK hc i pins s σ H E I hf st hg
    subst hP hw hK
    obtain ⟨⟨old, he⟩, hit, hne⟩ := st
    obtain ⟨xs, x, hq, hx⟩ := hg
    obtain ⟨its, rv, p, hz⟩ := I.tuple hq
    obtain ⟨u, hu, ru⟩ := rv.get hx
    have hel : e < s.heap.objs.size := Heap.lt_size he
    have hil : it < s.heap.objs.size := by obtain ⟨_, q, _⟩ := hit; exact Heap.lt_size q
    have pt : s.heap.IsTuple a its.toArray := p
    have nai : a ≠ it := by
      rintro rfl
      obtain ⟨o1, h1, c1, _⟩ := hit
      obtain ⟨o2, h2, c2, _⟩ := pt
      rw [h1] at h2
      cases h2
      rw [c1] at c2
      exact absurd (Value.type.inj c2) (by decide)
    have nea : e ≠ a := by
      rintro rfl
      obtain ⟨o2, h2, c2, _⟩ := pt
      have := he.symm.trans h2
      cases this
      exact absurd (Value.type.inj c2) (by decide)
    have hlt : i < its.toArray.size := by
      have := (List.getElem?_eq_some_iff.mp hu).1
      simpa using this
    refine wpAny_pyNext_enum_itemD (n := its.toArray.size) (Draws.tuple (A := X.A.in1) (show X.A.in1.handled = none from I.ok.hd hc) it a nai its.toArray) he ⟨hit, pt⟩ hlt hne (by simp [hne, nea]) fun y h' tk hy ho hst' hT hsz hk => ?_
    obtain ⟨hit', pt'⟩ := hst'
    have ey : y = u := by
      have h1 : its.toArray[i]? = some u := by simpa using hu
      exact Option.some.inj (hy.symm.trans h1)
    subst ey
    refine ⟨_, rfl, wpAny_letOwnedTupleGo_enum (s := { s with heap := h', toks := tk + 1 }) ho fun h'' he' sb => ?_⟩
    have hT2 : h''.get? s.heap.objs.size = some { cls := .type "tuple", data := .seq #[.int i tk, y] } := (sb.2 _ (Nat.ne_of_gt hel)).trans hT
    have new : ObjOk X.prog X.w (upd H s.heap.objs.size (.tup [.int (i : Nat), x])) h'' s.heap.objs.size (.tup [.int (i : Nat), x]) :=
      ⟨by show 2 ≤ sizeLine; decide, [.int i tk, y], .cons ⟨_, rfl⟩ (.cons ru .nil), ⟨_, hT2, rfl, _, rfl⟩⟩
    have I1 : Inv X pins σ (upd H s.heap.objs.size (.tup [.int (i : Nat), x])) { s with heap := h'', toks := tk + 1 } :=
      I.turnedNew (ch := [e, it]) (fun b ob hb q => (sb.2 b (fun z => hb (by simp [z]))).trans (hk b ob (fun z => hb (by simp [z])) (fun z => hb (by simp [z])) q)) hf (Nat.le_refl _) new
    refine ⟨.ref s.heap.objs.size, _, I1, rfl, ⟨_, x, rfl, I.hok.fresh (Nat.le_refl _), rfl, fun ys hy => by rw [I.tuple_inj hy hq]; exact hx⟩, ⟨⟨y, ?_⟩, hit'.at fun o q => (sb.2 it (Ne.symm hne)).trans q, hne⟩, fun b hb => ?_⟩
    · have e1 : ((i + 1 : Nat) : Int) = (i : Int) + 1 := by omega
      rw [e1]; exact he'
    · have hb' : b < s.heap.objs.size := by
        have e' : b = e ∨ b = it := by simpa using hb
        rcases e' with z | z
        · rw [z]; exact hel
        · rw [z]; exact hil
      rw [upd_ne (Nat.ne_of_lt hb')]
      exact (hf b hb).1
  done := by
    intro X hP hw hK hc i pins s σ H E I hf st hg
    subst hP hw hK
    obtain ⟨⟨old, he⟩, hit, hne⟩ := st
    obtain ⟨xs, hq, hx⟩ := hg
    obtain ⟨its, rv, p, hz⟩ := I.tuple hq
    obtain ⟨f0, f1, f2, f3, f4, f5⟩ := hf it (by simp)
    have hl := rv.length
    have pt : s.heap.IsTuple a its.toArray := p
    have nai : a ≠ it := by
      rintro rfl
      obtain ⟨o1, h1, c1, _⟩ := hit
      obtain ⟨o2, h2, c2, _⟩ := pt
      rw [h1] at h2
      cases h2
      rw [c1] at c2
      exact absurd (Value.type.inj c2) (by decide)
    have hT : s.TypeIs (.ref e) "enumerate" := ⟨_, he, rfl⟩
    unfold pyNext
    refine wpAny_bind (wpAny_attempt (wpAny_callSpecial?_slot (name := Str.ofString "__next__") hT PySem.F.slot_enumerate_next
      (wpAny_call_entry PySem.F.slot_enumerate_next hT PySem.F.entry_enumerate_next ?_ (PySem.F.args_enumerate_next_1 _))))
    show wpAny _ _ (field (.ref e) 2 >>= _) _ _ _
    refine wpAny_bind (wpAny_field he rfl (x := .ref it) rfl ?_)
    refine wpAny_bind (wpAny_nextOf_tuple_end (show X.A.in1.handled = none from I.ok.hd hc) hit pt (by simp; omega) fun h' x he' hx' => ?_)
    obtain ⟨o, ho, hcl⟩ := hx'
    refine wpAny_bind (wpAny_isInstance (T := "StopIteration") (b := true) ⟨o, ho, hcl⟩ isSubtype_stop ?_)
    exact wpAny_pure ⟨rfl, I.turned (t' := s.toks) (fun b o hb e => he' b o hb e) f0 f1 f3 f4 f5⟩
  self := fun A i s Q E st h => let ⟨⟨_, he⟩, _⟩ := st; wpAny_pyIter_enum he h
def iEnumT (K : PySem.W.Frag) (ta : TA) : TI := fun σ H R => ta σ H fun vs H1 => ∃ a xs, vs = [.ref a] ∧ SqT K H1 a xs ∧ R (IteT K a) H1
theorem pi_enumT {X : Cx} {K : PySem.W.Frag} {e : Expr} {ta : TA} {p pos tpos : Pos} {elts : List Expr} {kk : Nat} (hg : Gl X "enumerate") (hm : X.mg "enumerate" = none) (ha : PA X [e] ta) (hK : X.K = K := by rfl) (hs : starEach [e] X.env = [(false, eval e X.env)] := by rfl) :
    PI X (.Tuple elts kk tpos) (.Call (.Name "enumerate" p) [e] [] pos) (iEnumT K ta) := by
  subst hK
  refine ⟨fun pins s σ H R I h => ?_⟩
  refine Call_ (ld_blt I hg hm boot_enumerate (PyProof.Rows.callWith_type1 (thn (ha.run pos pins s σ H _ I h) fun us s1 ⟨vs, H1, I1, r1, q1⟩ => ?_) hs rfl))
  obtain ⟨a, xs, ex, hq, q⟩ := q1
  subst ex
  cases r1 with
  | cons r rr =>
    cases rr
    cases r
    obtain ⟨its, rv, p', hz⟩ := I1.tuple hq
    refine call_enumerate_tup (show s1.heap.IsTuple a its.toArray from p') fun h' he hit hsz hk => wpAny_pyIter_enum he ?_
    have I2 : Inv X pins σ H1 { s1 with heap := h' } := I1.kept (t' := s1.toks) hk
    refine ⟨s1.heap.objs.size + 1, [s1.heap.objs.size + 1, s1.heap.objs.size], _, _, H1, rfl, I2, turn_enumT a (s1.heap.objs.size + 1) s1.heap.objs.size, ⟨⟨.none, he⟩, hit, Nat.succ_ne_self _⟩, fun b hb => ?_, q⟩
    have e' : b = s1.heap.objs.size + 1 ∨ b = s1.heap.objs.size := by simpa using hb
    have hle : s1.heap.objs.size ≤ b := by
      rcases e' with z | z
      · rw [z]; exact Nat.le_add_right _ _
      · rw [z]; exact Nat.le_refl _
    exact I1.fpOk hle (I1.hok.fresh hle)
def rListS : List V → Hp → VK → Prop := fun xs H Q => ∃ w : Str, xs = [.str w] ∧ w.length ≤ 1000 ∧ ∀ p, H p = none → Q (.ref p) (upd H p (.lst (w.cps.toList.map fun c => V.str ⟨#[c]⟩)))
theorem call_listS {X : Cx} (hc : X.calm = true) : CallR X (.type "list") rListS := by
  intro pins s σ H xs us Q I r h
  obtain ⟨w, rfl, hl, q⟩ := h
  obtain ⟨u, rfl, rx⟩ := vals1 r
  obtain ⟨t, rfl⟩ := (show ∃ t, u = Value.str w t from rx)
  have hz : w.cps.size ≤ sizeLine := Nat.le_trans hl (by decide)
  refine call_list_str (I.ok.hd hc) w t (fun h' tk acc c' hkeep hS hacc => ?_) hz
  refine ⟨.ref s.heap.objs.size, upd H s.heap.objs.size (.lst (w.cps.toList.map fun c => V.str ⟨#[c]⟩)), I.laid hkeep (Nat.le_refl _) (show ObjOk X.prog X.w _ _ _ (.lst _) from ⟨by rw [List.length_map, Array.length_toList]; exact hz, acc.toList, c', ?_, ?_⟩), rfl, q _ (I.hok.fresh (Nat.le_refl _))⟩
  · refine vals_of_at (by rw [List.length_map, Array.length_toList, Array.length_toList]; exact hacc.1.symm) fun j x u h1 h2 => ?_
    obtain ⟨c, t2, hc1, hc2⟩ := hacc.2 j u (by rw [← Array.getElem?_toList]; exact h2)
    rw [List.getElem?_map, Array.getElem?_toList, hc1] at h1
    cases h1
    exact ⟨t2, hc2⟩
  · rw [Array.toArray_toList]; exact hS
def cutL {α : Type} (xs : List α) (lo hi : Option Int) : List α := (xs.drop (HT.sIx xs.length 0 lo)).take (HT.sIx xs.length xs.length hi - HT.sIx xs.length 0 lo)
theorem TdAll.cut {H : Hp} {xs : List V} {ds : List PyData} (h : TdAll H xs ds) (lo hi : Option Int) : TdAll H (cutV xs lo hi) (cutL ds lo hi) := by
  unfold cutV cutL
  rw [← h.length]
  generalize HT.sIx xs.length 0 lo = a
  generalize HT.sIx xs.length xs.length hi - a = b
  have d : ∀ {xs : List V} {ds : List PyData} (k : Nat), TdAll H xs ds → TdAll H (xs.drop k) (ds.drop k) := by
    intro xs ds k h
    induction k generalizing xs ds with
    | zero => exact h
    | succ k ih =>
      cases h with
      | nil => exact .nil
      | cons a r => exact ih r
  have t : ∀ {xs : List V} {ds : List PyData} (k : Nat), TdAll H xs ds → TdAll H (xs.take k) (ds.take k) := by
    intro xs ds k h
    induction k generalizing xs ds with
    | zero => exact .nil
    | succ k ih =>
      cases h with
      | nil => exact .nil
      | cons a r => exact .cons a (ih r)
  exact t b (d a h)
def rSlD : V → Option Int → Option Int → Hp → VK → Prop := fun x lo hi H Q => ∃ ds, Td H x (.tuple ds) ∧ ∀ v H', Same H H' → Td H' v (.tuple (cutL ds lo hi)) → Q v H'
theorem sl_tupD {X : Cx} : SlR X rSlD := by
  intro pins s σ H x v vl vu lo hi sl Q I rx hs pl pu h
  obtain ⟨ds, hT, q⟩ := h
  obtain ⟨a, xs, rfl, ha, hx⟩ := hT.tup_inv
  refine sl_tupA pins s σ H _ v vl vu lo hi sl Q I rx hs pl pu ⟨a, xs, rfl, SqT.of ha, fun hw => ?_, fun _ p hp => ?_⟩
  · have e : cutL ds lo hi = ds := by
      unfold cutL
      rw [← hx.length, hw.1, hw.2, List.drop_zero, Nat.sub_zero, hx.length, List.take_length]
    refine q _ _ (Same.refl H) ?_
    rw [e]
    exact .tup ha hx
  · have t1 := Same.upd (o := .tup (cutV xs lo hi)) (Same.refl H) hp
    exact q _ _ t1 (.tup upd_same ((hx.cut lo hi).mono (KT.of t1)))
def rCatD : R2 := fun x y H Q => ∃ ds es, Td H x (.tuple ds) ∧ Td H y (.tuple es) ∧ ds.length + es.length ≤ 1000 ∧ ∀ v H', Same H H' → Td H' v (.tuple (ds ++ es)) → Q v H'
theorem op_catD {X : Cx} : OpR X (binaryOp .Add) rCatD := by
  intro pins s σ H x y v u Q I rx ry h
  obtain ⟨ds, es, hT, hU, hl, q⟩ := h
  obtain ⟨a, xs, rfl, ha, hx⟩ := hT.tup_inv
  obtain ⟨b, ys, rfl, hb, hy⟩ := hU.tup_inv
  refine op_catA pins s σ H _ _ v u Q I rx ry ⟨a, b, xs, ys, rfl, rfl, SqT.of ha, SqT.of hb, ?_, fun h0 => ?_, fun _ h0 => ?_, fun _ _ p hp => ?_⟩
  · rw [hx.length, hy.length]
    exact Nat.le_trans hl (by decide)
  · subst h0
    cases hx
    exact q _ _ (Same.refl H) (.tup hb hy)
  · subst h0
    cases hy
    refine q _ _ (Same.refl H) ?_
    rw [List.append_nil]
    exact .tup ha hx
  · have t1 := Same.upd (o := .tup (xs ++ ys)) (Same.refl H) hp
    exact q _ _ t1 (.tup upd_same ((hx.append hy).mono (KT.of t1)))
end My
namespace My
open PySem PySem.Spec PyProof.Rows L2
structure IsC (K : PySem.W.Frag) (C : Addr) : Prop where
  ca : PySem.W.findIn K (.ref C) "__class__" = some (some (.builtin "object.__class__"))
  cn : PySem.W.specialIn K (.builtin "object.__class__") "__get__" = some (some (.builtin "getset_descriptor.__get__"))
  ct : PySem.W.takesIn K (.builtin "object.__class__") = some true
  cm : PySem.W.mroIn K C (.type "object") = some true
  ty : PySem.W.typeIn K (.ref C) = some (.type "type")
  nt : noTy K C = true
theorem noTy_mk {K : PySem.W.Frag} {C : Addr} (h1 : PySem.W.subIn K (.ref C) (.type "NoneType") = some false) (h2 : PySem.W.subIn K (.ref C) (.type "int") = some false) (h3 : PySem.W.subIn K (.ref C) (.type "bool") = some false)
    (h4 : PySem.W.subIn K (.ref C) (.type "str") = some false) (h5 : PySem.W.subIn K (.ref C) (.type "tuple") = some false) (h6 : PySem.W.subIn K (.ref C) (.type "list") = some false) : noTy K C = true := by
  unfold noTy
  simp only [List.all_cons, List.all_nil, h1, h2, h3, h4, h5, h6, Bool.and_true]
  decide
section
variable {K : PySem.W.Frag} {C C' : Addr} {H : Hp}
theorem IsC.tyx {a dx : Addr} {fs : List (Str × V)} (i : IsC K C) (c : Cls K C) (h : H a = some (.ins C dx fs)) : TyX K H (.ref a) (.ref C) := .base (.ins h c i.ca i.cn i.ct i.cm)
theorem IsC.self (_ : IsC K C) : PySem.W.kitOne K (.ref C) (.ref C) = some true := by
  unfold PySem.W.kitOne
  rw [if_pos (by simp)]
theorem IsC.cls (i : IsC K C) (c : Cls K C) {t : Value} {b : Bool} (ne : (t == Value.ref C) = false) (h : PySem.W.subIn K t (.ref C) = some b) : PySem.W.kitOne K t (.ref C) = some b := by
  unfold PySem.W.kitOne
  rw [if_neg (by rw [ne]; simp)]
  obtain ⟨cd, hc, _⟩ := PySem.W.any_some c.hd
  show (if ((PySem.W.clsIn K C).isSome && PySem.W.typeIn K (.ref C) == some (.type "type")) = true then PySem.W.subIn K t (.ref C) else none) = some b
  rw [hc, i.ty, if_pos (by simp)]
  exact h
theorem Pl.tyx {v : V} (h : Pl H v) : ∃ T, TyX K H v (.type T) ∧ ∃ l, fastBuiltinMro T = some l ∧ l.all (fun v => !onTheHeap v) = true := by
  cases h with
  | non => exact ⟨_, .base .non, _, rfl, by decide +kernel⟩
  | int i => exact ⟨_, .base (.int i), _, rfl, by decide +kernel⟩
  | bl i => exact ⟨_, .base (.bl i), _, rfl, by decide +kernel⟩
  | str i => exact ⟨_, .base (.str i), _, rfl, by decide +kernel⟩
  | tup h => exact ⟨_, .base (.tup h), _, rfl, by decide +kernel⟩
  | lst h => exact ⟨_, .base (.lst h), _, rfl, by decide +kernel⟩
theorem IsC.no (i : IsC K C) (c : Cls K C) {v : V} (h : Pl H v) : ∃ t, TyX K H v t ∧ PySem.W.kitOne K t (.ref C) = some false := by
  obtain ⟨T, h1, l, e1, e2⟩ := h.tyx (K := K)
  exact ⟨_, h1, i.cls c (by rfl) (subTy e1 e2)⟩
theorem IsC.other (i : IsC K C) (c : Cls K C) (i' : IsC K C') (c' : Cls K C') {a dx : Addr} {fs : List (Str × V)} (h : H a = some (.ins C' dx fs)) (e : PySem.W.subIn K (.ref C') (.ref C) = some false) (ne : C' ≠ C) : ∃ t, TyX K H (.ref a) t ∧ PySem.W.kitOne K t (.ref C) = some false :=
  ⟨_, i'.tyx c' h, i.cls c (by simpa using ne) e⟩
end

theorem u65 {k : Nat} {A : Around} (r : Room k A) : A.units + 65 < cLine := by have := r.un; omega
theorem kInD {X : Cx} {K : PySem.W.Frag} (hu : X.A.units + 65 < cLine) (h : X.K = K := by rfl) : OpR X (compareOp .In) (rInD K) := by subst h; exact op_inD hu
structure MethDAt (K : PySem.W.Frag) (C : Addr) (m q : Str) (st : Stmt) (ps : List Str) (dvs : List V) : Prop where
  ex : ∃ f fd, FunD K m q (defArgs st) (defBody st) (defScope st) dvs [] f fd ∧ Meth K C m f ∧ Binds K fd ps [] ∧ ∃ ds, Vals dvs ds ∧ Binds K fd ps ds
structure MakeDOk (P : Program) (w : World) (K : PySem.W.Frag) (mg : Str → Option Value) (base : Heap) (k : Nat) (C : Addr) (x : Str) (dvs : List V) (sp : Sp) : Prop where
  ex : ∃ f fd ps, FnOk P w K mg base CX0 k f fd ps sp ∧ Mk K C f ∧ Binds K fd ps [] ∧ (∃ ds, Vals dvs ds ∧ Binds K fd ps ds) ∧ mg x = some (.ref C)
section
variable {P : Program} {w : World} {K : PySem.W.Frag} {mg : Str → Option Value} {base : Heap} {k n : Nat} {x m q : Str} {C : Addr} {sp : Sp} {N ps : List Str} {st : Stmt} {dvs : List V}
theorem MethDAt.make (D : MethDAt K C "__init__" q st ps dvs) (c : ClassAt K mg C x) (S : FnScope N ps (defScope st)) (len : ∀ vs H Q E, sp vs H Q E → vs.length = ps.length) (b : BodyOk P w K mg base k N q st sp) : MakeDOk P w K mg base (k + 1) C x dvs sp := by
  obtain ⟨f, fd, F, hm, hb, hd⟩ := D.ex
  exact ⟨f, fd, ps, F.ok S len (fun cdv A outer s H vs Q E hr h => by
    obtain ⟨t, h, q⟩ := b f cdv A outer s H vs Q E hr h
    exact ⟨t, h.nox, q⟩), ⟨c.makes, hm.at_, hm.fn, c.kp⟩, hb, hd, c.mg⟩
end
section
variable {X : Cx} {k : Nat} {x : Str} {C : Addr} {sp : Sp} {p pos : Pos} {e : Expr} {es : List Expr} {t : TA} {dvs : List V}
theorem pe_makeDC (G : MakeDOk X.prog X.w X.K X.mg X.base k C x dvs sp) (hr : Room (k + 1) X.A) (ha : PA X (e :: es) t) (hg : Gl X x := by rfl) (hdb : (x == ("__debug__" : Str)) = false := by decide)
    (he : starEach (e :: es) X.env = (false, eval e X.env) :: starEach es X.env := by rfl) (hpl : (backTo pos (starEach es X.env)).any (·.1) = false := by rfl) : PE X (.Call (.Name x p) (e :: es) [] pos) (tMake C sp [] E0 t) := by
  obtain ⟨f, fd, ps, F, hM, hb, _, hm⟩ := G.ex
  exact pe_make hM F hr hg hm hb .nil pass0 ha hdb he hpl
theorem pe_makeD1 (G : MakeDOk X.prog X.w X.K X.mg X.base k C x dvs sp) (hr : Room (k + 1) X.A) (ha : PA X (e :: es) t) (hg : Gl X x := by rfl) (hdb : (x == ("__debug__" : Str)) = false := by decide)
    (he : starEach (e :: es) X.env = (false, eval e X.env) :: starEach es X.env := by rfl) (hpl : (backTo pos (starEach es X.env)).any (·.1) = false := by rfl) : PE X (.Call (.Name x p) (e :: es) [] pos) (tMake C sp dvs E0 t) := by
  obtain ⟨f, fd, ps, F, hM, _, ⟨ds, hd, hb⟩, hm⟩ := G.ex
  exact pe_make hM F hr hg hm hb hd pass0 ha hdb he hpl
end
structure PropAt (K : PySem.W.Frag) (C : Addr) (f q : Str) (st : Stmt) (ps : List Str) : Prop where
  ex : ∃ p g fd, PropOf K C f p g ∧ Fun K f q st g fd ∧ Binds K fd ps []
structure PropOk (P : Program) (w : World) (K : PySem.W.Frag) (mg : Str → Option Value) (base : Heap) (k : Nat) (C : Addr) (f : Str) (sp : Sp) : Prop where
  ex : ∃ p g fd ps, PropOf K C f p g ∧ FnOk P w K mg base CX0 k g fd ps sp ∧ Binds K fd ps [] ∧ Cls K C
theorem PropAt.ok {P : Program} {w : World} {K : PySem.W.Frag} {mg : Str → Option Value} {base : Heap} {k : Nat} {f q : Str} {C : Addr} {sp : Sp} {N ps : List Str} {st : Stmt} (D : PropAt K C f q st ps) (c : Cls K C) (S : FnScope N ps (defScope st)) (len : ∀ vs H Q E, sp vs H Q E → vs.length = ps.length) (b : BodyOk P w K mg base k N q st sp) : PropOk P w K mg base (k + 1) C f sp := by
  obtain ⟨p, g, fd, hp, F, hb⟩ := D.ex
  exact ⟨p, g, fd, ps, hp, F.ok S len (fun cdv A outer s H vs Q E hr h => b g cdv A outer s H vs Q E hr h), hb, c⟩
theorem pe_propC {X : Cx} {k : Nat} {C : Addr} {f : Str} {sp : Sp} {e : Expr} {pos : Pos} {ta : TE} (he : PE X e ta) (G : PropOk X.prog X.w X.K X.mg X.base k C f sp) (hr : Room (k + 1) X.A)
    (hab : attributeBase e f X.env (eval e X.env) = eval e X.env := by rfl) : PE X (.Attribute e f pos) (tProp C sp [] E0 ta) := by
  obtain ⟨p, g, fd, ps, hp, F, hb, c⟩ := G.ex
  exact pe_prop he c hp F hr hb .nil pass0 hab
section
variable {K : PySem.W.Frag} {h : Heap} {mg : Str → Option Value} {C f p T : Addr} {x m q : Str} {st : Stmt} {ps : List Str} {oc : Value} {od an : Option Addr} {osl : Array (Option Value)} {kV doc pm cdv ct : Value} {dvs : List V} {its : List Value} {n : Nat} {o : Obj} {rest : List Value}
theorem methDAt (b0 : ∀ (T : Addr) (kV doc pm : Value) (an : Option Addr) (cdv ct : Value) (us its : List Value), us.length = ps.length → its.length = dvs.length →
      ∃ k, bindArgs (PySem.W.fnOf m q (defArgs st) (defBody st) (defScope st) (.ref T) kV doc pm an cdv ct) ⟨us, []⟩ = seqItems? (.ref T) >>= k ∧ k (some its.toArray) = pure (ps.zip us))
    (b1 : ∀ (T : Addr) (kV doc pm : Value) (an : Option Addr) (cdv ct : Value) (us its : List Value), us.length + dvs.length = ps.length → its.length = dvs.length →
      ∃ k, bindArgs (PySem.W.fnOf m q (defArgs st) (defBody st) (defScope st) (.ref T) kV doc pm an cdv ct) ⟨us, []⟩ = seqItems? (.ref T) >>= k ∧ k (some its.toArray) = pure (ps.zip (us ++ its)))
    (hd : dvs ≠ []) (hle : dvs.length ≤ ps.length)
    (a : PySem.W.findIn K (.ref C) m = some (some (.ref f))) (i : PySem.W.isFn K (.ref f) = true) (l : K.lookup f = some ⟨oc, od, .func (PySem.W.fnOf m q (defArgs st) (defBody st) (defScope st) (.ref T) kV doc pm an cdv ct), osl⟩)
    (c : PySem.W.codeIn K cdv q = true) (k : PySem.W.keepIn K (.ref f) = true) (lT : K.lookup T = some o) (oT : o.data = .seq its.toArray n) (rT : Vals dvs its) : MethDAt K C m q st ps dvs := by
  have F : FunD K m q (defArgs st) (defBody st) (defScope st) dvs [] f (PySem.W.fnOf m q (defArgs st) (defBody st) (defScope st) (.ref T) kV doc pm an cdv ct) :=
    ⟨⟨oc, od, .ref T, kV, doc, pm, an, cdv, ct, osl, rfl, l, c, .inr ⟨hd, T, o, its, n, rfl, lT, oT, rT⟩, .inl rfl⟩, k⟩
  refine ⟨f, _, F, ⟨a, i, k⟩, ?_, ?_⟩
  · obtain ⟨ds, hv, hb⟩ := F.binds1 (ps := ps) ps.length dvs.length hd (by omega) (fun T kV doc pm an cdv ct us its h1 h2 => by
      obtain ⟨k, e1, e2⟩ := b0 T kV doc pm an cdv ct us its h1 h2
      refine ⟨k, e1, ?_⟩
      rw [← h2, List.drop_length, List.append_nil]
      exact e2)
    rw [List.drop_length] at hv
    cases hv
    exact hb
  · exact F.binds1 (ps := ps) (ps.length - dvs.length) 0 hd (by omega) (fun T kV doc pm an cdv ct us its h1 h2 => by
      obtain ⟨k, e1, e2⟩ := b1 T kV doc pm an cdv ct us its (by omega) h2
      exact ⟨k, e1, e2⟩)
theorem propAt (b : ∀ (kV doc pm : Value) (an : Option Addr) (cdv ct : Value) (us : List Value), us.length = ps.length → bindArgs (PySem.W.fnOf m q (defArgs st) (defBody st) (defScope st) .none kV doc pm an cdv ct) ⟨us, []⟩ = pure (ps.zip us))
    (a : PySem.W.findIn K (.ref C) m = some (some (.ref p))) (g : PySem.W.specialIn K (.ref p) "__get__" = some (some (.builtin "property.__get__"))) (t : PySem.W.takesIn K (.ref p) = some true) (r : PySem.W.recIn K p "property" = some (.ref f :: rest))
    (l : K.lookup f = some ⟨oc, od, .func (PySem.W.fnOf m q (defArgs st) (defBody st) (defScope st) .none kV doc pm an cdv ct), osl⟩)
    (c : PySem.W.codeIn K cdv q = true) (k : PySem.W.keepIn K (.ref f) = true) : PropAt K C m q st ps :=
  ⟨p, f, _, ⟨a, g, t, rest, r⟩, fun_mk (st := st) l c k, (fun_mk (st := st) l c k).binds b⟩
theorem tupAt {xs : List V} {a : Addr} {dd : Option Addr} {sl : Array (Option Value)} (l : K.lookup a = some ⟨.type "tuple", dd, .seq its.toArray n, sl⟩) (hl : xs.length ≤ 100) (r : Vals xs its) : ∀ H, SqT K H a xs := fun H =>
  .inr ⟨_, its.toArray, n, l, rfl, rfl, by rw [List.size_toArray, ← r.length]; exact Nat.le_trans hl (by decide), r⟩
end
inductive StepD (pl : Plan) : PyData → Prop where
  | load (n m : Str) (b : Bool) (hn : n ∈ pl.map (·.1)) (hm : m ∈ [("raw" : Str), "blank", "refuse"]) : StepD pl (.tuple [.str "load", .str n, .str m, .bool b])
  | col (w n c : Str) (hw : w ∈ [("patch" : Str), "fill", "sweep"]) (hc : ∃ e ∈ pl, e.1 = n ∧ c ∈ e.2.2.map (·.1)) : StepD pl (.tuple [.str w, .str n, .str c])
def cFlds (sp : Addr) (tv : V) (b : Bool) : List (Str × V) := putF "_kept" (.bl b) (putF "_steps" tv (putF "_schema" (.ref sp) []))
theorem c_ne1 : ¬ (("_kept" : Str) = "_steps") := by decide +kernel
theorem c_ne2 : ¬ (("_kept" : Str) = "_schema") := by decide +kernel
theorem c_ne3 : ¬ (("_steps" : Str) = "_schema") := by decide +kernel
theorem cFlds_k (sp : Addr) (tv : V) (b : Bool) : (cFlds sp tv b).lookup ("_kept" : Str) = some (.bl b) := by
  unfold cFlds
  rw [lookup_putF, if_pos rfl]
theorem cFlds_t (sp : Addr) (tv : V) (b : Bool) : (cFlds sp tv b).lookup ("_steps" : Str) = some tv := by
  unfold cFlds
  rw [lookup_putF, if_neg (fun e => c_ne1 e.symm), lookup_putF, if_pos rfl]
theorem cFlds_s (sp : Addr) (tv : V) (b : Bool) : (cFlds sp tv b).lookup ("_schema" : Str) = some (.ref sp) := by
  unfold cFlds
  rw [lookup_putF, if_neg (fun e => c_ne2 e.symm), lookup_putF, if_neg (fun e => c_ne3 e.symm), lookup_putF, if_pos rfl]
theorem cFlds_no (sp : Addr) (tv : V) (b : Bool) {m : Str} (h1 : ¬ m = "_kept") (h2 : ¬ m = "_steps") (h3 : ¬ m = "_schema") : (cFlds sp tv b).lookup m = none := by
  unfold cFlds
  rw [lookup_putF, if_neg h1, lookup_putF, if_neg h2, lookup_putF, if_neg h3]
  rfl
structure ScrAt (CP CS : Addr) (H : Hp) (p : Addr) (pl : Plan) (ds : List PyData) (b : Bool) : Prop where
  ex : ∃ (dx sp : Addr) (tv : V), H p = some (.ins CP dx (cFlds sp tv b)) ∧ SchAt CS H sp pl ∧ Td H tv (.tuple ds)
  len : ds.length ≤ 20
  st : ∀ d ∈ ds, StepD pl d
theorem ScrAt.same {CP CS p : Addr} {H H' : Hp} {pl : Plan} {ds : List PyData} {b : Bool} (S : ScrAt CP CS H p pl ds b) (e : Same H H') : ScrAt CP CS H' p pl ds b := by
  obtain ⟨dx, sp, tv, h1, h2, h3⟩ := S.ex
  exact ⟨⟨dx, sp, tv, e _ _ h1, h2.same e, h3.kt_same e⟩, S.len, S.st⟩
theorem ScrAt.fr {CP CS p a : Addr} {H H' : Hp} {pl : Plan} {ds : List PyData} {b : Bool} {xs : List V} (S : ScrAt CP CS H p pl ds b) (e : Fr1 a H H') (ha : H a = some (.lst xs)) : ScrAt CP CS H' p pl ds b := by
  obtain ⟨dx, sp, tv, h1, h2, h3⟩ := S.ex
  exact ⟨⟨dx, sp, tv, e _ _ (ne_of h1 ha (by intro z; cases z)) h1, h2.fr e ha, h3.mono (e.kt ha)⟩, S.len, S.st⟩
theorem word_fine (w : Str) (h : cd w ∈ [cd "load", cd "raw", cd "blank", cd "refuse", cd "patch", cd "fill", cd "sweep"]) : Fine 1 (.str w) := Fine.str fun c hc => by
  simp only [List.mem_cons, List.not_mem_nil, or_false] at h
  have go : ∀ l : List Nat, (l.all fun c => decide (c < 0x110000)) = true → cd w = l → c < 0x110000 := fun l hl e => by
    rw [e] at hc
    exact of_decide_eq_true (List.all_eq_true.mp hl c hc)
  rcases h with h | h | h | h | h | h | h <;> exact go _ (by decide +kernel) h
theorem StepD.fine {pl : Plan} {d : PyData} (g : Good pl) (h : StepD pl d) : Fine 2 d := by
  cases h with
  | load n m b hn hm =>
    refine Fine.tup (n := 1) fun d hd => ?_
    simp only [List.mem_cons, List.not_mem_nil, or_false] at hd hm
    rcases hd with rfl | rfl | rfl | rfl
    · exact word_fine _ (by simp)
    · exact (g.names _ hn).fine
    · rcases hm with rfl | rfl | rfl <;> exact word_fine _ (by simp)
    · exact Fine.bool b
  | col w n c hw hc =>
    obtain ⟨e, he, rfl, hc⟩ := hc
    obtain ⟨r, hr, rfl⟩ := List.mem_map.mp hc
    refine Fine.tup (n := 1) fun d hd => ?_
    simp only [List.mem_cons, List.not_mem_nil, or_false] at hd hw
    rcases hd with rfl | rfl | rfl
    · rcases hw with rfl | rfl | rfl <;> exact word_fine _ (by simp)
    · exact (g.nm e he).fine
    · exact ((g.refs e he).nm r hr).fine
theorem steps_fine {pl : Plan} {ds : List PyData} (g : Good pl) (h : ∀ d ∈ ds, StepD pl d) : Fine 3 (.tuple ds) := Fine.tup (n := 2) fun d hd => (h d hd).fine g
theorem for_enumT {K : PySem.W.Frag} {a : Addr} {xs : List V} {g : TG} {tb : TS} {D : Ends} {σ : L2.St} {H : Hp} (Pv : Nat → L2.St → Hp → Prop) (h0 : Pv 0 σ H) (hl : ∀ i σ H, i ≤ xs.length → Pv i σ H → SqT K H a xs)
    (hs : ∀ i x σ H T, xs[i]? = some x → Pv i σ H → H T = none → g (.ref T) σ (upd H T (.tup [.int (i : Nat), x])) fun σ2 H2 => tb { D with nx := Pv (i + 1), ct := Pv (i + 1), bk := D.nx } σ2 H2) (hd : ∀ σ H, Pv xs.length σ H → D.nx σ H) :
    ∃ W : Nat → Nat → L2.St → Hp → Prop, (∃ m, W 0 m σ H) ∧ ∀ i m σ H, W i m σ H →
      ((IteT K a).stop i H ∧ D.nx σ H) ∨ ((IteT K a).go i H ∧ ∃ N : L2.St → Hp → Prop, (∀ σ' H', N σ' H' → ∃ m', m' < m ∧ W (i + 1) m' σ' H') ∧ ∀ x H', (IteT K a).yld i H x H' → g x σ H' fun σ2 H2 => tb { D with nx := N, ct := N, bk := D.nx } σ2 H2) := by
  refine ⟨fun i m σ H => m = xs.length - i ∧ i ≤ xs.length ∧ Pv i σ H, ⟨xs.length, by simp, Nat.zero_le _, h0⟩, ?_⟩
  rintro i m σ H ⟨rfl, hi, p⟩
  have q := hl i σ H hi p
  by_cases hlt : i < xs.length
  · refine .inr ⟨⟨xs, xs[i], q, by simp [hlt]⟩, Pv (i + 1), fun σ' H' p' => ⟨xs.length - (i + 1), by omega, rfl, hlt, p'⟩, fun x H' y => ?_⟩
    obtain ⟨T, x2, rfl, hT, rfl, y⟩ := y
    exact hs i x2 σ H T (y xs q) p hT
  · have e : i = xs.length := by omega
    subst e
    exact .inl ⟨⟨xs, q, Nat.le_refl _⟩, hd σ H p⟩
theorem op_or {X : Cx} {f : Value → Value → Sem Value} {r1 r2 : R2} (h1 : OpR X f r1) (h2 : OpR X f r2) : OpR X f (fun x y H Q => r1 x y H Q ∨ r2 x y H Q) := by
  intro pins s σ H x y v u Q I rx ry h
  rcases h with h | h
  · exact h1 pins s σ H x y v u Q I rx ry h
  · exact h2 pins s σ H x y v u Q I rx ry h
theorem notFirst_self {K : PySem.W.Frag} {C : Addr} : PySem.W.notFirst K C (.ref C) = true := by
  unfold PySem.W.notFirst
  simp
theorem notFirst_of {K : PySem.W.Frag} {C C' : Addr} (h : PySem.W.subIn K (.ref C') (.ref C) = some false) : PySem.W.notFirst K C (.ref C') = true := by
  unfold PySem.W.notFirst
  rw [h]
  simp
end My
namespace My
open PySem PySem.Spec PyProof.Rows L2
theorem cutL_to {α : Type} (xs : List α) (k : Nat) : cutL xs none (some (k : Int)) = xs.take k := by
  unfold cutL
  rw [HT.sIx_none, HT.sIx_nat, List.drop_zero, Nat.sub_zero]
  rcases Nat.le_total k xs.length with h | h
  · rw [Nat.min_eq_left h]
  · rw [Nat.min_eq_right h, List.take_length, List.take_of_length_le h]
theorem cutL_from {α : Type} (xs : List α) (k : Nat) : cutL xs (some (k : Int)) none = xs.drop k := by
  unfold cutL
  rw [HT.sIx_none, HT.sIx_nat]
  rcases Nat.le_total k xs.length with h | h
  · rw [Nat.min_eq_left h, List.take_of_length_le (by rw [List.length_drop]; exact Nat.le_refl _)]
  · rw [Nat.min_eq_right h, List.drop_length, List.drop_of_length_le h]
    simp
theorem cutL_mid {α : Type} (xs : List α) (i j : Nat) (h1 : i ≤ xs.length) (h2 : j ≤ xs.length) : cutL xs (some (i : Int)) (some (j : Int)) = (xs.drop i).take (j - i) := by
  unfold cutL
  rw [HT.sIx_nat, HT.sIx_nat, Nat.min_eq_left h1, Nat.min_eq_left h2]
theorem cutL_last {α : Type} (xs : List α) : cutL xs none (some (-1)) = xs.dropLast := by
  have h : HT.sIx xs.length xs.length (some (-1)) = xs.length - 1 := by
    show (if (-1 : Int) < 0 then ((-1 : Int) + (xs.length : Int)).toNat else min (-1 : Int).toNat xs.length) = _
    rw [if_pos (show (-1 : Int) < 0 by decide)]
    omega
  unfold cutL
  rw [HT.sIx_none, List.drop_zero, Nat.sub_zero, List.dropLast_eq_take, h]
def PSub (pl pl2 : Plan) : Prop := ∀ e ∈ pl, ∃ e2 ∈ pl2, e2.1 = e.1 ∧ ∀ c ∈ e.2.2.map (·.1), c ∈ e2.2.2.map (·.1)
theorem PSub.refl (pl : Plan) : PSub pl pl := fun e he => ⟨e, he, rfl, fun _ h => h⟩
theorem StepD.sub {pl pl2 : Plan} {d : PyData} (s : PSub pl pl2) (h : StepD pl d) : StepD pl2 d := by
  cases h with
  | load n m b hn hm =>
    obtain ⟨e, he, rfl⟩ := List.mem_map.mp hn
    obtain ⟨e2, he2, en, _⟩ := s e he
    exact .load _ m b (List.mem_map.mpr ⟨e2, he2, en⟩) hm
  | col w n c hw hc =>
    obtain ⟨e, he, rfl, hc⟩ := hc
    obtain ⟨e2, he2, en, ec⟩ := s e he
    exact .col w _ c hw ⟨e2, he2, en, ec c hc⟩
theorem set_split {α : Type} {l : List α} {i : Nat} (h : i < l.length) (x : α) : l.take i ++ [x] ++ l.drop (i + 1) = l.set i x := by
  rw [List.set_eq_take_append_cons_drop, if_pos h, List.append_assoc]
  rfl
theorem planD_set {pl : Plan} {i : Nat} (h : i < pl.length) (e : Ent) : PyData.tuple ((pl.map entD).take i ++ [entD e] ++ (pl.map entD).drop (i + 1)) = planD (pl.set i e) := by
  unfold planD
  rw [← set_split h e, List.map_append, List.map_append, List.map_take, List.map_drop]
  rfl
theorem Good.set {pl : Plan} (g : Good pl) {i : Nat} {en e : Ent} (he : pl[i]? = some en) (hn : e.1 = en.1) (hr : GoodRefs (pl.map (·.1)) e.2.2) : Good (pl.set i e) := by
  have hil := (List.getElem?_eq_some_iff.mp he).1
  have hnames : (pl.set i e).map (·.1) = pl.map (·.1) := by
    rw [List.map_set]
    refine List.ext_getElem? fun j => ?_
    rw [List.getElem?_set]
    split
    · rename_i hj
      subst hj
      rw [List.getElem?_map, he, if_pos (by rw [List.length_map]; exact hil)]
      exact congrArg some hn
    · rfl
  refine ⟨by rw [List.length_set]; exact g.lo, by rw [List.length_set]; exact g.hi, fun x hx => ?_, by rw [hnames]; exact g.nd, fun x hx => ?_⟩
  · rcases List.mem_or_eq_of_mem_set hx with h | rfl
    · exact g.nm x h
    · rw [hn]
      exact g.nm en (List.mem_of_getElem? he)
  · rw [hnames]
    rcases List.mem_or_eq_of_mem_set hx with h | rfl
    · exact g.refs x h
    · exact hr
theorem PSub.set {pl : Plan} {i : Nat} {en e : Ent} (he : pl[i]? = some en) (hn : e.1 = en.1) (hc : ∀ c ∈ en.2.2.map (·.1), c ∈ e.2.2.map (·.1)) : PSub pl (pl.set i e) := by
  intro x hx
  obtain ⟨j, hj, rfl⟩ := List.getElem_of_mem hx
  by_cases z : i = j
  · subst z
    obtain ⟨h1, h2⟩ := List.getElem?_eq_some_iff.mp he
    rw [h2]
    exact ⟨e, List.mem_of_getElem? (i := i) (by rw [List.getElem?_set_self h1]), hn, hc⟩
  · exact ⟨pl[j], List.mem_of_getElem? (i := j) (by rw [List.getElem?_set_ne z, List.getElem?_eq_getElem hj]), rfl, fun _ h => h⟩
theorem planD_ins (pl : Plan) (i : Nat) (e : Ent) : PyData.tuple ((pl.map entD).take i ++ [entD e] ++ (pl.map entD).drop i) = planD (pl.take i ++ [e] ++ pl.drop i) := by
  unfold planD
  rw [List.map_append, List.map_append, List.map_take, List.map_drop]
  rfl
theorem ins_perm {α : Type} (l : List α) (i : Nat) (x : α) : (l.take i ++ [x] ++ l.drop i).Perm (x :: l) := by
  rw [List.append_assoc]
  have := List.perm_middle (a := x) (l₁ := l.take i) (l₂ := l.drop i)
  rw [List.take_append_drop] at this
  exact this
theorem Good.perm {pl pl2 : Plan} (p : pl2.Perm pl) (g : Good pl) : Good pl2 := by
  have pn : (pl2.map (·.1)).Perm (pl.map (·.1)) := p.map _
  refine ⟨by rw [p.length_eq]; exact g.lo, by rw [p.length_eq]; exact g.hi, fun e he => g.nm e (p.subset he), pn.nodup_iff.mpr g.nd, fun e he => ?_⟩
  have r := g.refs e (p.subset he)
  exact ⟨r.len, r.nm, fun x hx => pn.symm.subset (r.to x hx), r.nd⟩
theorem PSub.perm {pl pl2 : Plan} (p : pl2.Perm pl) : PSub pl pl2 := fun e he => ⟨e, p.symm.subset he, rfl, fun _ h => h⟩
theorem Good.cons {pl : Plan} (g : Good pl) (h : pl.length < 5) {w : Str} (b : Bool) (nw : Nm w) (hw : w ∉ pl.map (·.1)) : Good ((w, b, []) :: pl) := by
  refine ⟨Nat.succ_pos _, h, fun e he => ?_, List.nodup_cons.mpr ⟨hw, g.nd⟩, fun e he => ?_⟩
  · rcases List.mem_cons.mp he with rfl | he
    · exact nw
    · exact g.nm e he
  · rcases List.mem_cons.mp he with rfl | he
    · exact ⟨Nat.zero_le _, by simp, by simp, List.nodup_nil⟩
    · have r := g.refs e he
      exact ⟨r.len, r.nm, fun x hx => List.mem_cons_of_mem _ (r.to x hx), r.nd⟩
theorem planD_rot (pl : Plan) : PyData.tuple ((pl.map entD).drop 1 ++ (pl.map entD).take 1) = planD (pl.drop 1 ++ pl.take 1) := by
  unfold planD
  rw [List.map_append, List.map_take, List.map_drop]
theorem refsD_ins (rs : List Ref) (i : Nat) (r : Ref) : PyData.tuple ((rs.map refD).take i ++ [refD r] ++ (rs.map refD).drop i) = refsD (rs.take i ++ [r] ++ rs.drop i) := by
  unfold refsD
  rw [List.map_append, List.map_append, List.map_take, List.map_drop]
  rfl
theorem refsD_set {rs : List Ref} {i : Nat} (h : i < rs.length) (r : Ref) : PyData.tuple ((rs.map refD).take i ++ [refD r] ++ (rs.map refD).drop (i + 1)) = refsD (rs.set i r) := by
  unfold refsD
  rw [← set_split h r, List.map_append, List.map_append, List.map_take, List.map_drop]
  rfl
theorem GoodRefs.ins {names : List Str} {rs : List Ref} (g : GoodRefs names rs) (h : rs.length < 3) (i : Nat) {c t : Str} (nc : Nm c) (hc : c ∉ rs.map (·.1)) (ht : t ∈ names) : GoodRefs names (rs.take i ++ [(c, t)] ++ rs.drop i) := by
  have p := ins_perm rs i ((c, t) : Ref)
  refine ⟨by rw [p.length_eq]; exact h, fun r hr => ?_, fun r hr => ?_, (p.map (·.1)).nodup_iff.mpr (List.nodup_cons.mpr ⟨hc, g.nd⟩)⟩
  · rcases List.mem_cons.mp (p.subset hr) with rfl | hr
    · exact nc
    · exact g.nm r hr
  · rcases List.mem_cons.mp (p.subset hr) with rfl | hr
    · exact ht
    · exact g.to r hr
theorem refs_set_names {rs : List Ref} {i : Nat} {r r2 : Ref} (h : rs[i]? = some r) (e : r2.1 = r.1) : (rs.set i r2).map (·.1) = rs.map (·.1) := by
  rw [List.map_set]
  refine List.ext_getElem? fun j => ?_
  rw [List.getElem?_set]
  split
  · rename_i hj
    subst hj
    rw [List.getElem?_map, h, if_pos (by rw [List.length_map]; exact (List.getElem?_eq_some_iff.mp h).1)]
    exact congrArg some e
  · rfl
theorem GoodRefs.set {names : List Str} {rs : List Ref} (g : GoodRefs names rs) {i : Nat} {r r2 : Ref} (h : rs[i]? = some r) (e : r2.1 = r.1) (ht : r2.2 ∈ names) : GoodRefs names (rs.set i r2) := by
  refine ⟨by rw [List.length_set]; exact g.len, fun x hx => ?_, fun x hx => ?_, by rw [refs_set_names h e]; exact g.nd⟩
  · rcases List.mem_or_eq_of_mem_set hx with hx | rfl
    · exact g.nm x hx
    · rw [e]
      exact g.nm r (List.mem_of_getElem? h)
  · rcases List.mem_or_eq_of_mem_set hx with hx | rfl
    · exact g.to x hx
    · exact ht
end My
namespace My
open PySem PySem.Spec PySem.Calls PyProof.Rows L2
open PySem.W in
theorem exCls {prog : Program} {w : World} {A : Around} {E : Value → Shared → Prop} {s : Shared} {K : Frag} {a D : Addr} {oa : Obj} {od : Option Obj} {Q : Option Value → Shared → Prop} (C : ExcC K D)
    (hf : findObj K D od "__class__" = some (.bind (.builtin "getset_descriptor.__get__") (.builtin "object.__class__"))) (Y : K.In s.heap) (J : InstAt s.heap a oa D od) (h : Q (some (.ref D)) { s with toks := s.toks + 1 }) :
    wpAny (model prog w) A (getAttr? (.ref a) "__class__") Q E s := by
  obtain ⟨hp, g, d, t, os⟩ := s
  have T0 := J.type (M := model prog w)
  have T1 := looks_findIn (M := model prog w) Y C.hg
  have T2 := looks_findIn (M := model prog w) Y C.hk
  have T3 := looks_find (M := model prog w) Y J hf
  have ex : Looks (model prog w) hp (isInstance (.ref a) (.type "BaseException")) true := T0.andThen (looks_subIn Y C.hs)
  have n0 : (false && onTheHeap (Value.builtin "BaseException.__getattribute__")) = false := rfl
  have n2 : (Value.builtin "BaseException.__getattribute__" == Value.builtin "object.__getattribute__") = false := by decide +kernel
  have n1 : (onTheHeap (Value.ref D) && Value.builtin "BaseException.__getattribute__" == Value.builtin "object.__getattribute__") = false := by rw [n2]; rfl
  unfold getAttr? getAttrBy? getAttrBy
  refine wpAny_bind (wpAny_mkText (wpAny_bind (wpAny_attempt (wpAny_holding (wpAny_bind (T0.at (wpAny_bind (T1.at ?_))))))))
  show wpAny _ _ (if (onTheHeap (Value.ref D) && Value.builtin "BaseException.__getattribute__" == Value.builtin "object.__getattribute__") = true then _ else _) _ _ _
  rw [n1, if_neg Bool.false_ne_true]
  unfold getAttrByItsOwn hookBefore; refine wpAny_bind ?_
  rw [if_pos (show onTheHeap (Value.ref D) = true from rfl)]; refine T2.at ?_
  refine wpAny_bind (wpAny_attempt (wpAny_holding ?_)); unfold callGetattribute
  rw [n0, if_neg Bool.false_ne_true]; unfold boundAndCalled
  rw [PySem.F.excAttr_ValueError.ga.bind (.ref a)]; refine wpAny_bind (wpAny_pure ?_)
  show wpAny _ _ (call (.builtin "BaseException.__getattribute__") [.ref a, .str "__class__" t]) _ _ _
  refine wpAny_call (codeAny_call_builtin PySem.F.excAttr_ValueError.ga.plain PySem.F.entry_bexc_ga ?_)
  refine @check_slot (model prog w) _ _ ⟨hp, g, d, t + 1, os⟩ "BaseException.__getattribute__" "BaseException" "__getattribute__" (.ref a) [.str "__class__" t] [] _ (by decide +kernel) (by decide +kernel) ex (PySem.F.args_bexc_ga (.ref a) (.str "__class__" t)) ?_
  unfold Builtin.«object.__getattribute__»
  refine wpAny_bind (wpAny_of_eq (a := ((Value.ref a : Value), [Value.str "__class__" t])) (by first | rfl | (simp only [slotArgs]; rfl)) ?_)
  refine wpAny_bind (wpAny_pure (wpAny_bind (T0.at (wpAny_bind (T3.at ?_)))))
  show wpAny _ _ (holding [Value.builtin "object.__class__"] (call (.builtin "getset_descriptor.__get__") [.builtin "object.__class__", .ref a, .ref D]) >>= ret) _ _ _
  refine wpAny_bind (wpAny_holding (wpAny_call (class_get (s := ⟨hp, g, d, t + 1, os⟩) (ox := oa) (od := od) Y J C.hm ?_)))
  refine wpAny_pure ?_
  show wpAny _ _ (handedOut (.ref D)) _ _ _
  rw [handedOut_of (v := .ref D) rfl]
  first
    | exact wpAny_pure (wpAny_pure h)
    | exact wpAny_pure h
    | exact wpAny_pure (wpAny_bind (wpAny_pure (wpAny_pure h)))
open PySem.W in
theorem exKit {K : Frag} {a D : Addr} {oa : Obj} {od : Option Obj} (C : ExcC K D) (hf : findObj K D od "__class__" = some (.bind (.builtin "getset_descriptor.__get__") (.builtin "object.__class__"))) :
    KitX K (.ref a) (.ref D) (fun h => InstAt h a oa D od) where
  ty := fun _ _ _ J => J.type
  it := fun _ _ Y _ => by
    obtain ⟨cd, hc, _⟩ := any_some C.hd
    unfold clsIn at hc
    split at hc
    · rename_i ho
      intro A' Q' E' s' k q
      unfold isType loadHead; exact wpAny_bind (wpAny_loadPart (k _ _ (Y _ _ ho)) (wpAny_pure q))
    · cases hc
  ne := fun h tp dd its n sl Y htp => by
    obtain ⟨cd, hc, _⟩ := any_some C.hd
    refine Bool.eq_false_iff.mpr fun q => ?_
    have e : D = tp := Value.ref.inj (beq_iff_eq.mp q)
    subst e
    unfold clsIn at hc
    split at hc
    · rename_i ho
      cases (Y _ _ ho).symm.trans htp
    · cases hc
  ca := fun Y J k => exCls C hf Y J k
def ExD (d : Option Addr) (H : Hp) : Prop := d = none ∨ ∃ dd fs, d = some dd ∧ H dd = some (.xd fs)
theorem exAt {X : Cx} {pins : List (Addr × Obj)} {σ : L2.St} {H : Hp} {s : Shared} {a D : Addr} {oe : Obj} {d : Option Addr} (C : ExcC X.K D) (hp : (a, oe) ∈ X.pn) (hz : Zc (.ref D) d oe) (hf : ∃ vs, oe.data = .fields vs) (I : Inv X pins σ H s) (hd : ExD d H) :
    ∃ od, PySem.W.KitX X.K (.ref a) (.ref D) (fun h => PySem.W.InstAt h a oe D od) ∧ PySem.W.InstAt s.heap a oe D od := by
  obtain ⟨ha, _⟩ := I.pin (a, oe) (List.mem_append_left _ hp)
  obtain ⟨vs, hv⟩ := hf
  have hn : (PySem.W.clsIn X.K D).isSome = true := by
    obtain ⟨cd, hc, _⟩ := PySem.W.any_some C.hd
    rw [hc]; rfl
  rcases hd with rfl | ⟨dd, fs, rfl, hdd⟩
  · refine ⟨none, exKit C (PySem.W.findObj_dataN hn C.ha C.hn C.ht), ha, hz.1, by unfold PySem.W.notCls; rw [hv] <;> rfl, ?_⟩
    rw [hz.2]; trivial
  · obtain ⟨mA, hns, hr⟩ := (show ObjOk X.prog X.w H s.heap dd (.xd fs) from I.hok dd _ hdd)
    obtain ⟨od, ho, hl⟩ := lookIn_ns hns
    refine ⟨some od, exKit C (PySem.W.findObj_data hn C.ha C.hn C.ht), ha, hz.1, by unfold PySem.W.notCls; rw [hv] <;> rfl, ?_⟩
    rw [hz.2]; exact ho
def rIsP (K : PySem.W.Frag) (a : Addr) (cls : Value) (d : Option Addr) : List V → Hp → VK → Prop := fun xs H Q => ∃ (D : Addr) (c : V) (u : Value) (b : Bool), xs = [.ref a, c] ∧ cls = .ref D ∧ ExcC K D ∧ ExD d H ∧ ClsV c u ∧ PySem.W.kitOne K (.ref D) u = some b ∧ Q (.bl b) H
def rIsPT (K : PySem.W.Frag) (a : Addr) (cls : Value) (d : Option Addr) : List V → Hp → VK → Prop := fun xs H Q => ∃ (D tp : Addr) (cs : List V) (us : List Value) (b : Bool), xs = [.ref a, .ref tp] ∧ cls = .ref D ∧ ExcC K D ∧ ExD d H ∧ H tp = some (.tup cs) ∧ Paired ClsV cs us ∧ PySem.W.kitAny K (.ref D) us = some b ∧ Q (.bl b) H
section
variable {X : Cx} {a : Addr} {oe : Obj} {cls : Value} {d : Option Addr}
theorem call_isP (hp : (a, oe) ∈ X.pn) (hz : Zc cls d oe) (hf : ∃ vs, oe.data = .fields vs) : CallR X (.builtin "isinstance") (rIsP X.K a cls d) := by
  intro pins s σ H xs us Q I r h
  obtain ⟨D, c, u, b, rfl, rfl, C, hd, k, e, q⟩ := h
  obtain ⟨u1, u2, rfl, r1, r2⟩ := vals2 r
  cases (show u1 = Value.ref a from r1)
  have e2 := k.eq r2
  subst e2
  obtain ⟨od, Z, J⟩ := exAt C hp hz hf I hd
  exact PySem.W.kia_one Z I.kIn J e (fun z => nomatch z) fun tk => ⟨.bl b, H, I.tok tk, rfl, q⟩
theorem call_isPT (hp : (a, oe) ∈ X.pn) (hz : Zc cls d oe) (hf : ∃ vs, oe.data = .fields vs) : CallR X (.builtin "isinstance") (rIsPT X.K a cls d) := by
  intro pins s σ H xs us Q I r h
  obtain ⟨D, tp, cs, ws, b, rfl, rfl, C, hd, hT, k, e, q⟩ := h
  obtain ⟨u1, u2, rfl, r1, r2⟩ := vals2 r
  cases (show u1 = Value.ref a from r1)
  cases (show u2 = Value.ref tp from r2)
  obtain ⟨od, Z, J⟩ := exAt C hp hz hf I hd
  obtain ⟨_, its, rv, ⟨oc, od2, dt, sl⟩, h1, h2, n, h3⟩ := (show ObjOk X.prog X.w H s.heap tp (.tup cs) from I.hok tp _ hT)
  have e3 := ClsV.all k rv
  subst e3
  simp only at h2 h3
  subst h2 h3
  exact PySem.W.kia_tup Z I.kIn J h1 e (fun z => nomatch z) fun tk => ⟨.bl b, H, I.tok tk, rfl, q⟩
end
abbrev SpE := Addr → Value → Option Addr → Sp
structure FnE (P : Program) (w : World) (K : PySem.W.Frag) (mg : Str → Option Value) (base : Heap) (k : Nat) (f : Addr) (fd : FuncData) (ps : List Str) (sp : SpE) : Prop where
  len : ∀ a c d vs H Q E, sp a c d vs H Q E → vs.length = ps.length
  run : ∀ (A : Around) (outer : List Env) (s : Shared) (H : Hp) (args : Args) (us : List Value) (vs : List V) (Q : VK) (E : XK) (p : Addr × Obj) (c : Value) (d : Option Addr), L2H.RoomH k A → L2H.PinOk outer H s p → Zc c d p.2 → (∃ z, p.2.data = .fields z) →
    Env0 P w K mg base A outer s H → BindsTo s fd args (ps.zip us) → Vals vs us → sp p.1 c d vs H Q E → codeAny (model P w) A (.call (.ref f) args) (CR CX0 outer P w H s Q E) s
theorem PSs.nox2 {X : Cx} {st : List Stmt} {t : TS} (h : PSs { X with xe := fun _ _ => False } st t) : PSs X st t := PSs.nox h
def BodyE (P : Program) (w : World) (K : PySem.W.Frag) (mg : Str → Option Value) (base : Heap) (k : Nat) (N : List Str) (q : Str) (st : Stmt) (sp : SpE) : Prop :=
  ∀ (f : Addr) (cdv : Value) (A : Around) (outer : List Env) (s : Shared) (H : Hp) (vs : List V) (Q : VK) (E : XK) (p : Addr × Obj) (c : Value) (d : Option Addr), Zc c d p.2 → (∃ z, p.2.data = .fields z) → L2H.RoomH k (A.deeper (envOfC q (defScope st) s.heap.objs.size f cdv)) → sp p.1 c d vs H Q E →
    ∃ t, PSs (L2H.cxH CX0 P w K mg base N q (defScope st) f cdv A outer s H E p) (defBody st) t ∧ t { nx := fun _ H' => Q .non H', rt := Q } (L2.start N vs) H
theorem Fun.okE {P : Program} {w : World} {K : PySem.W.Frag} {mg : Str → Option Value} {base : Heap} {x q : Str} {st : Stmt} {f : Addr} {fd : FuncData} {N ps : List Str} {k : Nat} {sp : SpE} (F : Fun K x q st f fd) (S : FnScope N ps (defScope st))
    (len : ∀ a c d vs H Q E, sp a c d vs H Q E → vs.length = ps.length) (hbody : BodyE P w K mg base k N q st sp) : FnE P w K mg base (k + 1) f fd ps sp := by
  obtain ⟨oc, od, kV, doc, pm, an, cdv, ct, osl, rfl, lk, hcd⟩ := F.ex
  refine ⟨len, fun A outer s H args us vs Q E p c d hr hpin hz hf e0 hb r hsp => ?_⟩
  have hl := len _ _ _ _ _ _ _ hsp
  have KY : K.In s.heap := e0.mod.kin.keeps fun b o e => (e0.bs b o e).1
  have lm : s.heap.NoLimit := e0.mod.nolimit.keeps fun b o e => (e0.bs b o e).1
  refine codeAny_call_function hr.depth (KY _ _ lk) rfl S.co S.gen rfl (PySem.W.codeRec_of KY hcd) (hb _ _ _ _ ?_)
  refine wpAny_newFunctionEnv_cells S.kind (fun ⟨n, v⟩ hy => ?_) fun env he s1 x => ?_
  · rcases S.par n (List.of_mem_zip hy).1 with k | k
    · exact .inl k
    · exact .inr ⟨k, PySem.W.cellsFrom_some _ _ _ (.inl k)⟩
  subst he
  refine ⟨lm.keeps x.toInCall.keep, codeAny_func ?_⟩
  obtain ⟨t, ht, hq⟩ := hbody f cdv A outer s H vs Q E p c d hz hf (hr.deeper _) hsp
  have I := L2H.inv_startH (CX := CX0) (cd := cdv) (f := f) (qual := q) (E := E) S hpin e0 hl r x
  refine wpAny_mono (ht.run [] s1 (L2.start N vs) H _ I hq) (fun fl s' hs => ?_) fun e s' hs => hs
  cases fl with
  | ret u =>
    obtain ⟨v, σ', H', J, rv, q⟩ := hs
    exact ⟨v, H', J.os, J.bare, J.base, J.hok, rv, q⟩
  | next =>
    obtain ⟨σ', H', J, q⟩ := hs
    exact ⟨.non, H', J.os, J.bare, J.base, J.hok, rfl, q⟩
  | brk =>
    obtain ⟨_, _, _, q⟩ := hs
    exact False.elim q
  | cont =>
    obtain ⟨_, _, _, q⟩ := hs
    exact False.elim q
structure CallE (P : Program) (w : World) (K : PySem.W.Frag) (mg : Str → Option Value) (base : Heap) (k : Nat) (x : Str) (sp : SpE) : Prop where
  ex : ∃ f fd ps, FnE P w K mg base k f fd ps sp ∧ mg x = some (.ref f) ∧ PySem.W.keepIn K (.ref f) = true ∧ Binds K fd ps []
theorem DefAt.okE {P : Program} {w : World} {K : PySem.W.Frag} {mg : Str → Option Value} {base : Heap} {x : Str} {st : Stmt} {N ps : List Str} {k : Nat} {sp : SpE} (D : DefAt K mg x st ps) (S : FnScope N ps (defScope st))
    (len : ∀ a c d vs H Q E, sp a c d vs H Q E → vs.length = ps.length) (b : BodyE P w K mg base k N x st sp) : CallE P w K mg base (k + 1) x sp := by
  obtain ⟨f, fd, F, hm, hb⟩ := D.ex
  exact ⟨f, fd, ps, Fun.okE F S len b, hm, F.kp, hb⟩
def tCallE (a : Addr) (cls : Value) (d : Option Addr) (sp : SpE) (t : TA) : TE := fun σ H Q => t σ H fun vs H1 => sp a cls d vs H1 Q E0
theorem pe_callE {X : Cx} {a : Addr} {oe : Obj} {cls : Value} {d : Option Addr} {k : Nat} {x : Str} {sp : SpE} {e : Expr} {es : List Expr} {t : TA} {p pos : Pos} (G : CallE X.prog X.w X.K X.mg X.base k x sp) (hr : L2H.RoomH k X.A) (hp : (a, oe) ∈ X.pn) (hz : Zc cls d oe) (hf : ∃ vs, oe.data = .fields vs)
    (ha : PA X (e :: es) t) (hg : Gl X x := by rfl) (hdb : (x == ("__debug__" : Str)) = false := by decide) (he : starEach (e :: es) X.env = (false, eval e X.env) :: starEach es X.env := by rfl) (hpl : (backTo pos (starEach es X.env)).any (·.1) = false := by rfl) :
    PE X (.Call (.Name x p) (e :: es) [] pos) (tCallE a cls d sp t) := by
  obtain ⟨f, fd, ps, F, hm, hk, hb⟩ := G.ex
  refine ⟨fun pins s σ H Q I h => ?_⟩
  refine wpAny_Call_Name_kw (ld_glob I hg hm ?_ hdb)
  refine PySem.W.callWith_K (h₀ := X.base) I.ok.mod.kin hk (thn (ha.run pos pins s σ H _ I h) fun us s1 ⟨vs, H1, I1, r, q⟩ => ⟨I1.kIn, ?_⟩) he hpl
  have P1 := I1.pin (a, oe) (List.mem_append_left _ hp)
  have hpin : L2H.PinOk X.stack H1 s1 (a, oe) := ⟨P1.1, P1.2.1, fun hm => (List.mem_cons.mp (I1.stkSub a hm)).elim P1.2.2.1 P1.2.2.2.1, P1.2.2.2.2⟩
  have hl : us.length = ps.length := by rw [← r.length]; exact F.len _ _ _ _ _ _ _ q
  have b := hb s1 us I1.kIn (by rw [List.append_nil]; exact hl)
  rw [List.append_nil] at b
  refine wpAny_call (codeAny_mono (F.run X.A X.stack s1 H1 ⟨us, []⟩ us vs Q E0 (a, oe) cls d hr hpin hz hf I1.env0 b r q) fun r s' hq => ?_)
  cases r with
  | error e => exact hq.elim
  | ok fl =>
    cases fl with
    | ret u => exact I1.after hq
    | next => exact False.elim hq
    | brk => exact False.elim hq
    | cont => exact False.elim hq
end My
namespace My
open PySem PySem.Spec PyProof.Rows L2
theorem ExD.same {d : Option Addr} {H H' : Hp} (h : ExD d H) (e : Same H H') : ExD d H' := by
  rcases h with h | ⟨dd, fs, h1, h2⟩
  · exact .inl h
  · exact .inr ⟨dd, fs, h1, e _ _ h2⟩
theorem roomS {k : Nat} {A : Around} {v : Option Value} (r : Room k A) : L2H.RoomH k (A.mark v) := ⟨r.dp, r.un⟩
theorem Vals.rev : ∀ {vs : List V} {us : List Value}, Vals vs us → Vals vs.reverse us.reverse
  | _, _, .nil => .nil
  | _, _, .cons h r => by
    rw [List.reverse_cons, List.reverse_cons]
    exact (Vals.rev r).append (.cons h .nil)
theorem MethDAt.makeK {P : Program} {w : World} {K : PySem.W.Frag} {mg : Str → Option Value} {base : Heap} {k : Nat} {x q : Str} {C : Addr} {sp : Sp} {N ps : List Str} {st : Stmt} {dvs : List V} (D : MethDAt K C "__init__" q st ps dvs) (c : ClassAt K mg C x) (S : FnScope N ps (defScope st)) (len : ∀ vs H Q E, sp vs H Q E → vs.length = ps.length) (b : BodyOk P w K mg base k N q st sp)
    (n : Nat) (ks : List Str) (g : {α : Type} → List α → List α → List α → List α) (hd : dvs ≠ []) (hrel : ∀ {vs ds zs : List V} {us its ws : List Value}, Vals vs us → Vals ds its → Vals zs ws → Vals (g vs ds zs) (g us its ws))
    (h : ∀ (T : Addr) (kV doc pm : Value) (an : Option Addr) (cdv ct : Value) (us its ws : List Value), us.length = n + 1 → its.length = dvs.length → ws.length = ks.length →
      ∃ k, bindArgs (PySem.W.fnOf "__init__" q (defArgs st) (defBody st) (defScope st) (.ref T) kV doc pm an cdv ct) ⟨us, ks.zip ws⟩ = seqItems? (.ref T) >>= k ∧ k (some its.toArray) = pure (ps.zip (g us its ws))) :
    MakeKOk P w K mg base (k + 1) C x n ks (fun vs zs => g vs dvs zs) sp := by
  obtain ⟨f, fd, F, hm, _, _⟩ := D.ex
  obtain ⟨its, hK⟩ := F.kbindsD (ps := ps) (n + 1) ks g hd hrel h
  exact ⟨f, fd, ps, _, F.ok S len (fun cdv A outer s H vs Q E hr h => by
    obtain ⟨t, h, q⟩ := b f cdv A outer s H vs Q E hr h
    exact ⟨t, h.nox, q⟩), ⟨c.makes, hm.at_, hm.fn, c.kp⟩, hK, c.mg⟩
theorem pe_makeKM {X : Cx} {k n : Nat} {x : Str} {C : Addr} {sp : Sp} {p pos : Pos} {e : Expr} {es : List Expr} {t tk : TA} {kws : List Keyword} {ks : List Str} {gV : List V → List V → List V} (G : MakeKOk X.prog X.w X.K X.mg X.base k C x n ks gV sp) (hr : Room (k + 1) X.A) (ha : PA X (e :: es) t) (hkw : PK X kws tk) (hg : Gl X x := by rfl)
    (hall : (backToKw pos (keywordEach kws X.env)).all (·.1.isSome) = true := by rfl) (hks : (backToKw pos (keywordEach kws X.env)).filterMap (·.1) = ks := by rfl) (hdb : (x == ("__debug__" : Str)) = false := by decide)
    (he : starEach (e :: es) X.env = (false, eval e X.env) :: starEach es X.env := by rfl) (hpl : ((backTo pos (starEach (e :: es) X.env)).any (·.1) || (backToKw pos (keywordEach kws X.env)).any (·.1.isNone)) = false := by rfl) : PE X (.Call (.Name x p) (e :: es) kws pos) (tMakeK C n ks.length sp gV E0 t tk) := by
  obtain ⟨f, fd, ps, g, F, hM, hb, hm⟩ := G.ex
  exact pe_makeK hM F hr hg hm hb pass0 ha hkw hall hks hdb he hpl
end My
namespace My
open PySem PySem.Spec PyProof.Rows L2
def Row (pl : Plan) (ds : List PyData) : Prop := ds.length ≤ 20 ∧ ∀ d ∈ ds, StepD pl d
def Odd (K : PySem.W.Frag) (H : Hp) (v : V) (n : Nat) : Prop := (∃ z : Int, v = .int z ∧ (z < 0 ∨ (n : Int) ≤ z)) ∨ (∃ b, v = .bl b) ∨ ∃ t, TyX K H v t ∧ PySem.W.kitOne K t (.type "int") = some false
inductive OddV (H : Hp) : V → PyData → Prop
  | int (z : Int) : OddV H (.int z) (.int z)
  | bl (b : Bool) : OddV H (.bl b) (.bool b)
  | non : OddV H .non .none
  | str (w : Str) (h : Fine 1 (.str w)) : OddV H (.str w) (.str w)
  | tup (a : Addr) (z : Int) (h : H a = some (.tup [.int z])) : OddV H (.ref a) (.tuple [.int z])
section
variable {H H' : Hp} {v : V} {d : PyData} {K : PySem.W.Frag} {n : Nat}
theorem OddV.same (h : OddV H v d) (e : Same H H') : OddV H' v d := by
  cases h with
  | int z => exact .int z
  | bl b => exact .bl b
  | non => exact .non
  | str w h => exact .str w h
  | tup a z h => exact .tup a z (e _ _ h)
theorem OddV.td (h : OddV H v d) : Td H v d := by
  cases h with
  | int z => exact .int z
  | bl b => exact .bl b
  | non => exact .non
  | str w h => exact .str w
  | tup a z h => exact .tup h (.cons (.int z) .nil)
theorem OddV.fine (h : OddV H v d) : Fine 2 d := by
  cases h with
  | int z => exact (Fine.int z).up (by decide)
  | bl b => exact (Fine.bool b).up (by decide)
  | non => exact Fine.none.up (by decide)
  | str w h => exact h.up (by decide)
  | tup a z h => exact Fine.tup (n := 1) fun d hd => by rw [List.mem_singleton.mp hd]; exact Fine.int z
theorem OddV.isb (h : OddV H v d) : ∃ t b, TyX K H v t ∧ PySem.W.kitOne K t (.type "bool") = some b := by
  cases h with
  | int z => exact ⟨_, false, .base (.int z), kit_ty (by decide +kernel)⟩
  | bl b => exact ⟨_, true, .base (.bl b), kit_ty (by decide +kernel)⟩
  | non => exact ⟨_, false, .base .non, kit_ty (by decide +kernel)⟩
  | str w h => exact ⟨_, false, .base (.str w), kit_ty (by decide +kernel)⟩
  | tup a z h => exact ⟨_, false, .base (.tup h), kit_ty (by decide +kernel)⟩
theorem OddV.odd (h : OddV H v d) (hi : ∀ z, v = .int z → z < 0 ∨ (n : Int) ≤ z) : Odd K H v n := by
  cases h with
  | int z => exact .inl ⟨z, rfl, hi z rfl⟩
  | bl b => exact .inr (.inl ⟨b, rfl⟩)
  | non => exact .inr (.inr ⟨_, .base .non, kit_ty (by decide +kernel)⟩)
  | str w h => exact .inr (.inr ⟨_, .base (.str w), kit_ty (by decide +kernel)⟩)
  | tup a z h => exact .inr (.inr ⟨_, .base (.tup h), kit_ty (by decide +kernel)⟩)
end
end My
namespace My
open PySem PySem.Spec PyProof.Rows L2
section
variable {X : Cx} {K : PySem.W.Frag} {a : Addr} {oe : Obj} {cls : Value} {d : Option Addr}
theorem kIsP (hp : (a, oe) ∈ X.pn) (hz : Zc cls d oe) (hf : ∃ vs, oe.data = .fields vs) (h : X.K = K := by rfl) : CallR X (.builtin "isinstance") (rIsP K a cls d) := by subst h; exact call_isP hp hz hf
theorem kIsPT (hp : (a, oe) ∈ X.pn) (hz : Zc cls d oe) (hf : ∃ vs, oe.data = .fields vs) (h : X.K = K := by rfl) : CallR X (.builtin "isinstance") (rIsPT K a cls d) := by subst h; exact call_isPT hp hz hf
end
end My
namespace My
open PySem PySem.Spec PyProof.Rows L2
theorem pe_ixY {X : Cx} {k : Nat} {C : Addr} {sp : Sp} {q : Str} {st : Stmt} {ps : List Str} {pos : Pos} {o i : Expr} {ta ti : TE} {W : WX} (ho : PE X o ta) (hi : PE X i ti) (G : MethX X.prog X.w X.K X.mg X.base k C "__getitem__" sp) (D : MethAt X.K C "__getitem__" q st ps) (hr : Room (k + 1) X.A) (tk : Takes X W)
    (hs : ∀ ov iv, subscripted i true ov iv = runValue (.builtin "lifetime.subscript" ⟨[ov, iv], []⟩) := by intro _ _; rfl) : PE X (.Subscript o i pos) (tIxX C sp (WE W) ta ti) := pe_ixX (s2 := st) ho hi G D hr tk hs
end My
namespace My
open PySem PySem.Spec PyProof.Rows L2
structure MethXK (P : Program) (w : World) (K : PySem.W.Frag) (mg : Str → Option Value) (base : Heap) (k : Nat) (C : Addr) (m : Str) (n : Nat) (ks : List Str) (gV : List V → List V → List V) (sp : Sp) : Prop where
  ex : ∃ f fd ps g, FnOk P w K mg base (L2.CX P w) k f fd ps sp ∧ Meth K C m f ∧ KBn K fd ps (n + 1) ks g gV ∧ Cls K C
theorem MethAt.okXK {P : Program} {w : World} {K : PySem.W.Frag} {mg : Str → Option Value} {base : Heap} {k n : Nat} {m q : Str} {C : Addr} {sp : Sp} {N ps ks : List Str} {st : Stmt} (D : MethAt K C m q st ps) (c : Cls K C) (S : FnScope N ps (defScope st)) (len : ∀ vs H Q E, sp vs H Q E → vs.length = ps.length) (b : BodyX P w K mg base k N q st sp)
    (g : {α : Type} → List α → List α → List α) (hrel : ∀ {vs zs : List V} {us ws : List Value}, Vals vs us → Vals zs ws → Vals (g vs zs) (g us ws))
    (h : ∀ (kV doc pm : Value) (an : Option Addr) (cdv ct : Value) (us ws : List Value), us.length = n + 1 → ws.length = ks.length → bindArgs (PySem.W.fnOf m q (defArgs st) (defBody st) (defScope st) .none kV doc pm an cdv ct) ⟨us, ks.zip ws⟩ = pure (ps.zip (g us ws))) :
    MethXK P w K mg base (k + 1) C m n ks (fun vs zs => g vs zs) sp := by
  obtain ⟨f, fd, F, hm, hb⟩ := D.ex
  refine ⟨f, fd, ps, fun us ws => g us ws, F.okX S len (fun cdv A outer s H vs Q E hr h => b f cdv A outer s H vs Q E hr h), hm, ?_, c⟩
  obtain ⟨oc, od, kV, doc, pm, an, cdv, ct, osl, rfl, lk, hcd⟩ := F.ex
  exact ⟨fun s us ws _ l1 l2 => .of_eq (h kV doc pm an cdv ct us ws l1 l2), fun r1 r2 => hrel r1 r2⟩
section
variable {X : Cx} {k n : Nat} {m : Str} {C : Addr} {sp : Sp} {pos apos : Pos} {o : Expr} {t tk2 : TA} {ta : TE} {W : WX} {ks : List Str} {gV : List V → List V → List V} {kws : List Keyword}
def tMethKX (C : Addr) (m : Str) (nk : Nat) (sp : Sp) (gV : List V → List V → List V) (E : L2.St → XK) (ta : TE) (t : TA) : TE := fun σ H Q => ta σ H fun x H1 => ∃ a dx fs, x = .ref a ∧ H1 a = some (.ins C dx fs) ∧ fs.lookup m = none ∧ t σ H1 fun zs H2 => zs.length = nk ∧ sp (gV [x] zs) H2 Q (E σ)
theorem pe_methKX {pl : Sem Bool} (he : PE X o ta) (G : MethXK X.prog X.w X.K X.mg X.base k C m 0 ks gV sp) (hr : Room k X.A) (tk : Takes X W) (hkw : PK X kws t)
    (hall : (backToKw pos (keywordEach kws X.env)).all (·.1.isSome) = true := by rfl) (hks : (backToKw pos (keywordEach kws X.env)).filterMap (·.1) = ks := by rfl)
    (hpl : ((backTo pos (starEach [] X.env)).any (·.1) || (backToKw pos (keywordEach kws X.env)).any (·.1.isNone)) = false := by rfl)
    (ht : eval (.Call (.Attribute o m apos) [] kws pos) X.env = (do
      let ov ← eval o X.env
      standAt apos.atName
      let (f, first) ← holding [ov] (getMethod ov m pl)
      callWith pos f first (backTo pos (starEach [] X.env)) (backToKw pos (keywordEach kws X.env))) := by rfl) :
    PE X (.Call (.Attribute o m apos) [] kws pos) (tMethKX C m ks.length sp gV (WE W) ta t) := by
  obtain ⟨f, fd, ps, g, F, hm, hb, c⟩ := G.ex
  refine ⟨fun pins s σ H Q I h => ?_⟩
  refine PySem.W.methodCall_KW (pl := pl) (thn (he.run pins s σ H _ I h) fun u s1 ⟨x, H1, I1, rx, a, dx, fs, ex, ea, l, q⟩ => ?_) ht
  subst ex
  obtain rfl : u = Value.ref a := rx
  refine getmeth_ok I1 ea c hm l ?_
  refine PySem.W.callWith_KW0 (first := [.ref a]) (h₀ := X.base) I.ok.mod.kin hm.kp hall ?_ hpl
  refine thn (hkw.run pos pins s1 σ H1 _ I1 q) fun ws s2 ⟨zs, H2, I2, rz, lz, q2⟩ => ⟨I2.kIn, ?_⟩
  rw [hks]
  have e2 : ws.length = ks.length := rz.length.symm.trans lz
  have r1 : Vals [V.ref a] [Value.ref a] := .cons rfl .nil
  refine wpAny_call (codeAny_mono (F.run X.A X.stack s2 H2 ⟨[.ref a], ks.zip ws⟩ (g [.ref a] ws) _ Q (WE W σ) hr I2.env0 (hb.to s2 [.ref a] ws I2.kIn rfl e2) (hb.rel r1 rz) q2) fun r s' hq => ?_)
  cases r with
  | error e => exact passAt tk σ pins _ _ e s' I2 hq
  | ok fl =>
    cases fl with
    | ret u => exact I2.after hq
    | next => exact False.elim hq
    | brk => exact False.elim hq
    | cont => exact False.elim hq
end
end My
namespace My
open PySem PySem.Spec PyProof.Rows L2
def caseD (pl : Plan) (ds : List PyData) (b : Bool) : PyData := .tuple [planD pl, .tuple ds, .bool b]
theorem caseD_inv {H : Hp} {v : V} {pl : Plan} {ds : List PyData} {b : Bool} (h : Td H v (caseD pl ds b)) : ∃ t tv rv, v = .ref t ∧ H t = some (.tup [tv, rv, .bl b]) ∧ Td H tv (planD pl) ∧ Td H rv (.tuple ds) := by
  obtain ⟨t, xs, rfl, ht, hx⟩ := h.tup_inv
  cases hx with
  | cons h0 r => cases r with
    | cons h1 r => cases r with
      | cons h2 r => cases r with
        | nil =>
          rw [h2.bl_inv] at ht
          exact ⟨t, _, _, rfl, ht, h0, h1⟩
theorem fine_s0 : Fine 1 (.str "0") := Fine.str fun c hc => by
  have : cd "0" = [48] := by decide +kernel
  rw [this] at hc
  rw [List.mem_singleton.mp hc]
  decide
theorem fine_s1 : Fine 1 (.str "") := Fine.str fun c hc => by
  have : cd "" = [] := by decide +kernel
  rw [this] at hc
  cases hc
theorem Row.without {pl : Plan} {ds : List PyData} (h : Row pl ds) (j : Nat) : Row pl (ds.take j ++ ds.drop (j + 1)) := by
  refine ⟨?_, fun d hd => ?_⟩
  · rw [List.length_append, List.length_take, List.length_drop]
    have := h.1
    omega
  · rcases List.mem_append.mp hd with m | m
    · exact h.2 d (List.mem_of_mem_take m)
    · exact h.2 d (List.mem_of_mem_drop m)
theorem ScrAt.row {CP CS p : Addr} {H : Hp} {pl : Plan} {ds : List PyData} {b : Bool} (S : ScrAt CP CS H p pl ds b) : Row pl ds := ⟨S.len, S.st⟩
end My
namespace My
open PySem PySem.Spec PyProof.Rows L2
abbrev Hnd := Value × Option Nat × (Addr → Value → Option Addr → TS)
def endN (D : Ends) : Option Nat → Ends
  | none => D
  | some i => { nx := fun σ' H' => D.nx (σ'.set i none) H', rt := D.rt, bk := fun σ' H' => D.bk (σ'.set i none) H', ct := fun σ' H' => D.ct (σ'.set i none) H' }
def stN (σ : L2.St) (a : Addr) : Option Nat → L2.St
  | none => σ
  | some i => σ.set i (some (.ref a))
def wM (K : PySem.W.Frag) (Wout : WX) (D : Ends) : List Hnd → WX
  | [] => Wout
  | (c, oi, ts) :: r => fun cls d σ H => ∃ b, PySem.W.exmOne K cls c = some b ∧ (b = true → ∀ a, H a = none → ts a cls d (endN D oi) (stN σ a oi) H) ∧ (b = false → wM K Wout D r cls d σ H)
abbrev SuOk (X : Cx) (su : List Stmt) (ts : Addr → Value → Option Addr → TS) : Prop := ∀ (a : Addr) (oe : Obj) (cls : Value) (d : Option Addr) (pn : List (Addr × Obj)), Zc cls d oe → (∃ vs, oe.data = .fields vs) → PSs (X.suite a ((a, oe) :: pn)) su (ts a cls d)
inductive HdsM (X : Cx) : List ExceptHandler → List Hnd → Prop
  | nil : HdsM X [] []
  | bare {x : Str} {c : Value} {ts : Addr → Value → Option Addr → TS} {b₀ : Stmt} {suite : List Stmt} {np pos' : Pos} {hds : List ExceptHandler} {l : List Hnd} (hc : Names X x c) (hsu : SuOk X (b₀ :: suite) ts) (r : HdsM X hds l) : HdsM X (.ExceptHandler (some (.Name x np)) none (b₀ :: suite) pos' :: hds) ((c, none, ts) :: l)
  | named {x n : Str} {c : Value} {i : Nat} {ts : Addr → Value → Option Addr → TS} {b₀ : Stmt} {suite : List Stmt} {np pos' : Pos} {hds : List ExceptHandler} {l : List Hnd} (hi : X.N[i]? = some n) (hln : X.env.kindOf n = some .local) (hc : Names X x c) (hsu : SuOk X (b₀ :: suite) ts) (r : HdsM X hds l) :
      HdsM X (.ExceptHandler (some (.Name x np)) (some n) (b₀ :: suite) pos' :: hds) ((c, some i, ts) :: l)
section
variable {X : Cx} {body : List Stmt} {h₀ : ExceptHandler} {hds : List ExceptHandler} {l : List Hnd} {pos : Pos} {tb : WX → TS} {Wout : WX}
theorem ps_tryM (hN : X.N.Nodup) (hs : X.stack = X.env :: X.outer) (hf : X.env.frame = some X.env.locals) (tk : Takes X Wout)
    (hb : ∀ (W : WX) (pn : List (Addr × Obj)) (xe : Value → Shared → Prop), Takes (X.tr pn xe) W → PassesOwn (model X.prog X.w) X.A X.env xe → PSs (X.tr pn xe) body (tb W))
    (hh : HdsM X (h₀ :: hds) l) : PS X (.Try body (h₀ :: hds) [] [] pos) (fun D σ H => tb (wM X.K Wout D l) D σ H) := by
  refine ⟨fun pins s σ H D I h => ?_⟩
  have ok := I.ok
  have hfr : X.A.frames = some (X.env :: X.outer) := by rw [ok.frames, hs]
  refine wpAny_Try_except ?_
  refine wpAny_mono ((hb (wM X.K Wout D l) (X.pn ++ pins) (fun e s₁ => wpAny (model X.prog X.w) X.A (noteFrame e X.env) (fun _ s₂ => wpAny (model X.prog X.w) X.A (setFlight e none) (fun _ s₃ =>
    wpAny (model X.prog X.w) X.A (handleBy e X.env (h₀ :: hds)) (SP X pins D) X.xe s₃) X.xe s₂) X.xe s₁) (fun u s' xx => ?_) PassesOwn.looking).run [] s σ H D (I.toTry _) h) (fun f s1 hsp => ?_) (fun e s1 he => he)
  rotate_left
  · cases f with
    | next =>
      obtain ⟨σ', H', J', q⟩ := hsp
      exact wpAny_execs_nil ⟨σ', H', J'.ofTry ok, q⟩
    | brk =>
      obtain ⟨σ', H', J', q⟩ := hsp
      exact ⟨σ', H', J'.ofTry ok, q⟩
    | cont =>
      obtain ⟨σ', H', J', q⟩ := hsp
      exact ⟨σ', H', J'.ofTry ok, q⟩
    | ret u =>
      obtain ⟨v, σ', H', J', r, q⟩ := hsp
      exact ⟨v, σ', H', J'.ofTry ok, r, q⟩
  · obtain ⟨a, B, sI, pins', σ', H', cls, d, rfl, J', nb, up, sky, na, os, ag, w⟩ := xx
    have J : Inv X pins σ' H' sI := J'.ofTry ok
    have sky' : Sky B (X.env :: X.outer) a (Zc cls d) X.env.locals s'.heap := by rw [← hs]; exact sky
    show wpAny (model X.prog X.w) X.A (noteFrame (.ref a) X.env) _ _ _
    refine Sky.land Zc.steady hfr hf sky' fun h3 fl3 up3 => ?_
    have J3 : Inv X pins σ' H' { s' with heap := h3 } := J.landed nb fl3.1 (up.trans up3) os ag
    obtain ⟨oe3, vs3, he3, hz3, hd3⟩ := fl3.there
    have notFr : ∀ {h : Heap} {o : Obj} {vs : Array Value}, h.FunFrames B (X.env :: X.outer) → h.get? a = some o → o.data = .fields vs → a ∉ frs (X.env :: X.outer) := fun {h o vs} ff e dd hm => by
      obtain ⟨_, o', e', hnf⟩ := ff.mem hm
      rw [e] at e'; cases e'
      exact hnf _ dd
    have nfr := notFr fl3.2.2.1 he3 hd3
    have nL : a ≠ X.env.locals := fun z => nfr (List.mem_filterMap.mpr ⟨X.env, List.mem_cons_self, by rw [hf, z]⟩)
    have nF : a ∉ X.fs := fun hm => by
      obtain ⟨e, he, q⟩ := List.mem_filterMap.mp hm
      exact nfr (List.mem_filterMap.mpr ⟨e, List.mem_cons_of_mem _ he, q⟩)
    have S3 := J3.suite he3 hd3 na nL nF
    have LT : PySem.W.Looks (model X.prog X.w) h3 (typeOf (.ref a)) cls := fun A Q E s k q => wpAny_typeOf_ref (k _ _ he3) (by rw [hz3.1]; exact q)
    have test : ∀ {x : Str} {c : Value} {np : Pos} {Q : Value → Shared → Prop} {E : Value → Shared → Prop}, Names X x c → Q c { s' with heap := h3 } → wpAny (model X.prog X.w) (X.A.mark (some (.ref a))) (eval (.Name x np) X.env) Q E { s' with heap := h3 } := fun {x c np Q E} hc q => by
      obtain ⟨hg, hdbg, hm | ⟨hm, hv, hnn⟩⟩ := hc
      · exact ld_glob (X := X.suite a ((a, oe3) :: (X.pn ++ pins))) S3 hg hm q hdbg
      · exact ld_blt (X := X.suite a ((a, oe3) :: (X.pn ++ pins))) S3 hg hm hv q hnn hdbg
    have go : ∀ {hds' : List ExceptHandler} {l' : List Hnd}, HdsM X hds' l' → wM X.K Wout D l' cls d σ' H' →
        wpAny (model X.prog X.w) X.A (handleBy (.ref a) X.env hds') (SP X pins D) X.xe { s' with heap := h3 } := by
      intro hds' l' hk
      induction hk with
      | nil =>
        intro w
        refine wpAny_handleBy_nil ?_
        obtain ⟨k1, k2, k3, oe, vs, T, oT, ts', he, hz, hd, h1, hr⟩ := id fl3
        unfold PySem.passOn
        refine wpAny_bind (wpAny_field he hd h1 ?_)
        rw [if_neg (show ¬ ((Value.ref T == Value.none) = true) from by simp)]
        have fin : wpAny (model X.prog X.w) X.A (setFlight (.ref a) X.env.frame) (fun _ s4 => wpAny (model X.prog X.w) X.A (throw (.ref a) : Sem Flow) (SP X pins D) X.xe s4) X.xe { s' with heap := h3 } := by
          rw [hf]
          refine HandSPX.setFlight_upZ fl3 fun h4 hh4 up4 => wpAny_throw (tk _ _ ?_)
          exact ⟨a, B, sI, pins, σ', H', cls, d, rfl, J, nb, (up.trans up3).trans up4, .inr (.inr (by rw [hs]; exact hh4)), na, os, ag, w⟩
        first
          | exact wpAny_bind (wpAny_pure (wpAny_bind fin))
          | exact wpAny_bind fin
      | @bare x c ts b₀ suite np pos' hds2 l2 hc hsu r ih =>
        intro w
        obtain ⟨b, hb1, hyes, hno⟩ := w
        refine wpAny_handleBy_cons (codeAny_handlers_test ?_) (by intro q; cases q)
        have LM := PySem.W.exm_one (M := model X.prog X.w) (J3.kIn) LT hb1
        refine test hc (LM.here ?_)
        cases b with
        | true =>
          refine codeAny_handlers_suite ?_
          refine HandSPX.lands_againZ fl3 fun h4 fl4 up4 => ?_
          have J4 : Inv X pins σ' H' { s' with heap := h4 } := J.landed nb fl4.1 ((up.trans up3).trans up4) os ag
          obtain ⟨oe4, vs4, he4, hz4, hd4⟩ := fl4.there
          have S4 := J4.suite he4 hd4 na nL nF
          refine wpAny_mono ((hsu a oe4 cls d (X.pn ++ pins) hz4 ⟨_, hd4⟩).run [] _ _ H' _ S4 (hyes rfl a na)) (fun f s6 hsp => ?_) (fun _ _ z => False.elim z)
          cases f with
          | next =>
            obtain ⟨σ6, H6, S6, q6⟩ := hsp
            exact ⟨_, _, S6.unsuite ok, q6⟩
          | brk =>
            obtain ⟨σ6, H6, S6, q6⟩ := hsp
            exact ⟨_, _, S6.unsuite ok, q6⟩
          | cont =>
            obtain ⟨σ6, H6, S6, q6⟩ := hsp
            exact ⟨_, _, S6.unsuite ok, q6⟩
          | ret u =>
            obtain ⟨v6, σ6, H6, S6, r6, q6⟩ := hsp
            exact ⟨_, _, _, S6.unsuite ok, r6, q6⟩
        | false =>
          show wpAny _ X.A (handleBy (.ref a) X.env hds2) _ _ _
          exact ih (hno rfl)
      | @named x n c i ts b₀ suite np pos' hds2 l2 hi hln hc hsu r ih =>
        intro w
        obtain ⟨b, hb1, hyes, hno⟩ := w
        refine wpAny_handleBy_cons (codeAny_handlers_test ?_) (by intro q; cases q)
        have LM := PySem.W.exm_one (M := model X.prog X.w) (J3.kIn) LT hb1
        refine test hc (LM.here ?_)
        cases b with
        | true =>
          refine codeAny_handlers_suite_as ?_
          refine HandSPX.lands_againZ fl3 fun h4 fl4 up4 => ?_
          have J4 : Inv X pins σ' H' { s' with heap := h4 } := J.landed nb fl4.1 ((up.trans up3).trans up4) os ag
          obtain ⟨oe4, vs4, he4, hz4, hd4⟩ := fl4.there
          have S4 := J4.suite he4 hd4 na nL nF
          refine store_ok (X := X.suite a ((a, oe4) :: (X.pn ++ pins))) (v := .ref a) S4 hN hi (.inl hln) rfl (fun s5 S5 => ?_) (.inr hln)
          refine wpAny_mono ((hsu a oe4 cls d (X.pn ++ pins) hz4 ⟨_, hd4⟩).run [] s5 _ H' _ S5 (hyes rfl a na)) (fun f s6 hsp => ?_) (fun _ _ z => False.elim z)
          have end_ : ∀ {σ6 : L2.St} {H6 : Hp} {Q : Shared → Prop}, Inv (X.suite a ((a, oe4) :: (X.pn ++ pins))) [] σ6 H6 s6 → (∀ s7, Inv X pins (σ6.set i none) H6 s7 → Q s7) →
              wpAny (model X.prog X.w) X.A (do bindName X.env n .none; unbindBehindTheSuite X.env n pos') (fun _ s7 => Q s7) X.xe s6 := fun {σ6 H6 Q} S6 hq => gone_ok (S6.unsuite ok) hN hi hln hq
          cases f with
          | next =>
            obtain ⟨σ6, H6, S6, q6⟩ := hsp
            exact end_ S6 fun s7 J7 => ⟨_, _, J7, q6⟩
          | brk =>
            obtain ⟨σ6, H6, S6, q6⟩ := hsp
            exact end_ S6 fun s7 J7 => ⟨_, _, J7, q6⟩
          | cont =>
            obtain ⟨σ6, H6, S6, q6⟩ := hsp
            exact end_ S6 fun s7 J7 => ⟨_, _, J7, q6⟩
          | ret u =>
            obtain ⟨v6, σ6, H6, S6, r6, q6⟩ := hsp
            exact end_ S6 fun s7 J7 => ⟨_, _, _, J7, r6, q6⟩
        | false =>
          show wpAny _ X.A (handleBy (.ref a) X.env hds2) _ _ _
          exact ih (hno rfl)
    exact go hh w
end
end My
namespace My
open PySem PySem.Spec PyProof.Rows L2
theorem let_go {X : Cx} {pins : List (Addr × Obj)} {σ : L2.St} {H1 H2 : Hp} {hp hp2 h2 : Heap} {g1 g2 : Array GenState} {d1 d2 : Drawn} {t1 t2 : Nat} {os1 os2 : OsState} {a C : Addr} (I1 : Inv X pins σ H1 ⟨hp, g1, d1, t1, os1⟩)
    (ha : hp.objs.size ≤ a) (k : ∀ b o, hp.get? b = some o → hp2.get? b = some o) (un : Un (frs X.stack) [] (upd H1 a (exo a C none)) H2 hp2 h2) (hok : HOk X.prog X.w H2 h2) (ho : os2 = os1) (hb : AllBare g2) (ea : H2 a = some (exo a C none)) :
    ∃ (t0 : Addr) (G : Heap), Inv X pins σ (del H2 a) ⟨G, g2, d2, t2, os2⟩ ∧ (∀ b o, G.get? b = some o → h2.get? b = some o) ∧ G.get? a = none ∧
      h2.get? a = some ({ cls := .ref C, dict := none, data := .fields #[.ref t0, .none, .none, .none, .bool false, .none] } : Obj) := by
  obtain ⟨t0, hoe⟩ := exo_at hok ea
  have n1 : H1 a = none := I1.hok.fresh ha
  obtain ⟨G, gA, gB⟩ := restrict h2 fun b => decide (b ≠ a)
  have same : ∀ b, b ≠ a → G.get? b = h2.get? b := fun b z => gA b (decide_eq_true z)
  have gone : G.get? a = none := gB a (by simp)
  have away : ∀ {b : Addr} {o : Obj}, hp.get? b = some o → b ≠ a := fun {b o} z => Nat.ne_of_lt (Nat.lt_of_lt_of_le (Heap.lt_size z) ha)
  have fr1 : ∀ {b : Addr}, b ≠ a → H1 b = none → upd H1 a (exo a C none) b = none := fun {b} z n => by rw [upd_ne z]; exact n
  have U : Un (frs X.stack) [] H1 (del H2 a) hp G := {
    keep := fun b o z n f x => by rw [same b (away z)]; exact un.keep b o (k b o z) (fr1 (away z) n) f x
    slot := fun b o z n f x => by rw [same b (away z)]; exact un.slot b o (k b o z) (fr1 (away z) n) f x
    free := fun b o z n x => by rw [del_ne (away z)]; exact un.free b o (k b o z) (fr1 (away z) n) x
    there := fun b o z x => by rw [same b (away z)]; exact un.there b o (k b o z) x
    tups := fun b xs z => by rw [del_ne (ne_of_none z n1)]; exact un.tups b xs (by rw [upd_ne (ne_of_none z n1)]; exact z)
    frzs := fun b o v z => by rw [del_ne (ne_of_none z n1)]; exact un.frzs b o v (by rw [upd_ne (ne_of_none z n1)]; exact z)
    tbls := fun b ps z => by rw [del_ne (ne_of_none z n1)]; exact un.tbls b ps (by rw [upd_ne (ne_of_none z n1)]; exact z) }
  have okG : HOk X.prog X.w (del H2 a) G := fun b o z => by
    have nb : b ≠ a := fun e => by rw [e, del_same] at z; cases z
    rw [del_ne nb] at z
    have noa : ∀ {c : Addr}, H2 c = some (.own b) → c ≠ a := fun {c} hc => at_ne ea hc exo_own
    exact (hok b o z).stay (fun c v hc y => by
        have nc : c ≠ a := by
          rcases hc with hc | hc
          · rw [hc]; exact nb
          · exact noa hc
        rw [same c nc]; exact y)
      (fun c hc => by rw [del_ne (noa hc)]; exact hc) (fun c xs hc => by rw [del_ne (at_ne ea hc exo_tup)]; exact hc)
  have J : Inv X pins σ (del H2 a) ⟨G, g2, d2, t2, os2⟩ := I1.call' (ch := []) ho U okG hb (fun b z => absurd z (by simp))
  refine ⟨t0, G, J, fun b o z => ?_, gone, hoe⟩
  by_cases e : b = a
  · rw [e, gone] at z; cases z
  · exact (same b e).symm.trans z
def tMkN (C : Addr) (sp : Sp) (ta : TA) : L2.St → Hp → XK → Prop := fun σ H Q => ta σ H fun vs H1 => vs.length ≤ 1000 ∧ ∀ a, H1 a = none → sp (.ref a :: (vs ++ [])) (upd H1 a (exo a C none))
  (fun v H2 => v = .non ∧ H2 a = some (exo a C none) ∧ Q (.ref C) none (del H2 a)) (fun _ _ _ => False)
theorem pmk_oexN {X : Cx} {CX : CXT} {x : Str} {C fI : Addr} {k : Nat} {fd : FuncData} {ps : List Str} {sp : Sp} {p pos : Pos} {e : Expr} {es : List Expr} {ta : TA} (T : OexC X.K C) (iC : PySem.W.findIn X.K (.ref C) "__init__" = some (some (.ref fI))) (tI : PySem.W.typeIn X.K (.ref fI) = some (.type "function"))
    (F1 : FnOk X.prog X.w X.K X.mg X.base CX k fI fd ps sp) (hr : Room (k + 1) X.A) (hb : Binds X.K fd ps []) (hx : Passes CX X (fun _ _ _ => False)) (hg : Gl X x) (hm : X.mg x = some (.ref C)) (ha : PA X (e :: es) ta)
    (hdb : (x == ("__debug__" : Str)) = false := by decide) (he : starEach (e :: es) X.env = (false, eval e X.env) :: starEach es X.env := by rfl) (hpl : (backTo pos (starEach es X.env)).any (·.1) = false := by rfl) :
    PMk X (.Call (.Name x p) (e :: es) [] pos) (tMkN C sp ta) := by
  intro pins s σ H Q I h
  obtain ⟨nm, q, N, bs, bm, sn, sub, ab, col, dd, k0, k1, k2, k3, k5, hC, hbm⟩ := T.cls
  refine wpAny_Call_Name_kw (ld_glob I hg hm ?_ hdb)
  refine PySem.W.callWith_K (h₀ := X.base) I.ok.mod.kin T.kC (thn (ha.run pos pins s σ H _ I h) fun us s1 ⟨vs, H1, I1, r1, hz, q1⟩ => ⟨I1.kIn, ?_⟩) he hpl
  show wpAny _ _ (call (.ref C) us) _ _ _
  obtain ⟨hp, g, dr, tk, os⟩ := s1
  have l1 : hp.objs.size ≤ hp.objs.size + 1 := Nat.le_succ _
  have hq := q1 (hp.objs.size + 1) (I1.hok.fresh l1)
  have kk : ∀ b o, hp.get? b = some o → ((hp.push (PySem.W.kdv_tup us)).push (PySem.HandSPX.excO C hp.objs.size)).get? b = some o := fun b o z => Heap.get?_push_of_some _ (Heap.get?_push_of_some _ z)
  have hget : ((hp.push (PySem.W.kdv_tup us)).push (PySem.HandSPX.excO C hp.objs.size)).get? (hp.objs.size + 1) = some (PySem.HandSPX.excO C hp.objs.size) := by heap_get
  have I2 : Inv X pins σ (upd H1 (hp.objs.size + 1) (exo (hp.objs.size + 1) C none)) ⟨(hp.push (PySem.W.kdv_tup us)).push (PySem.HandSPX.excO C hp.objs.size), g, dr, tk, os⟩ :=
    I1.laid (t' := tk) (a := hp.objs.size + 1) (o := exo (hp.objs.size + 1) C none) (h' := (hp.push (PySem.W.kdv_tup us)).push (PySem.HandSPX.excO C hp.objs.size)) kk l1 (exo_ok hget)
  have r2 : Vals (V.ref (hp.objs.size + 1) :: (vs ++ [])) (Value.ref (hp.objs.size + 1) :: us) := .cons rfl (by rw [List.append_nil]; exact r1)
  have hl : (Value.ref (hp.objs.size + 1) :: us).length = ps.length := by
    have z := r2.length
    rw [F1.len _ _ _ _ hq] at z
    exact z.symm
  have hb2 := hb _ (Value.ref (hp.objs.size + 1) :: us) I2.kIn (by rw [List.append_nil]; exact hl)
  rw [List.append_nil] at hb2
  have lus : us.length ≤ sizeLine := by rw [← Paired.length r1, sizeLine_eq]; omega
  refine wpAny_call (PySem.HandSPX.call_own F.excBase_ValueError (fun Y => PySem.HandSPX.refsVE_contains Y bm hbm) (I1.kIn _ _ hC) (PySem.W.looks_findIn I1.kIn iC) (fun self => PySem.W.bind_fn I1.kIn self tI) lus
    (codeAny_mono (F1.run _ X.stack _ _ ⟨Value.ref (hp.objs.size + 1) :: us, []⟩ (Value.ref (hp.objs.size + 1) :: us) _ _ (fun _ _ _ => False) (hr.make C us []) (I2.env0.make C us []) hb2 r2 hq) fun r s' hq' => ?_))
  cases r with
  | error er => exact hx pins σ _ _ er s' I2 hq'
  | ok fl =>
    cases fl with
    | ret u =>
      obtain ⟨v, H2, os2, bare2, un2, hok2, rv, ev, ea, q2⟩ := hq'
      subst ev
      obtain ⟨h2, g2, d2, t2, os'⟩ := s'
      obtain ⟨t0, G, J, kG, ge, hoe⟩ := let_go (d2 := d2) (t2 := t2) I1 l1 kk un2 hok2 os2 bare2 ea
      exact ⟨rv, ⟨hp.objs.size + 1, _, _, ⟨G, g2, d2, t2, os'⟩, _, .ref C, none, rfl, J, kG, ge, hoe, ⟨rfl, rfl⟩, rfl, rfl, del_same, rfl, bare2, raises_own T.exC T.tyC, q2⟩⟩
    | next => exact False.elim hq'
    | brk => exact False.elim hq'
    | cont => exact False.elim hq'
structure InhOk (P : Program) (w : World) (K : PySem.W.Frag) (mg : Str → Option Value) (base : Heap) (k : Nat) (C : Addr) (x : Str) : Prop where
  ex : ∃ f fd ps, FnOk P w K mg base CX0 k f fd ps (spBaseK K) ∧ PySem.W.findIn K (.ref C) "__init__" = some (some (.ref f)) ∧ PySem.W.typeIn K (.ref f) = some (.type "function") ∧ Binds K fd ps [] ∧ ErrAt K mg C x []
theorem MethAt.inh {P : Program} {w : World} {K : PySem.W.Frag} {mg : Str → Option Value} {base : Heap} {k : Nat} {x q : Str} {B C : Addr} {N ps : List Str} {st : Stmt} (D : MethAt K B "__init__" q st ps) (c : ErrAt K mg C x []) (i : PySem.W.findIn K (.ref C) "__init__" = PySem.W.findIn K (.ref B) "__init__") (S : FnScope N ps (defScope st))
    (len : ∀ vs H Q E, spBaseK K vs H Q E → vs.length = ps.length) (b : BodyOk P w K mg base k N q st (spBaseK K)) : InhOk P w K mg base (k + 1) C x := by
  obtain ⟨f, fd, F, hm, hb⟩ := D.ex
  exact ⟨f, fd, ps, F.ok S len (fun cdv A outer s H vs Q E hr h => b f cdv A outer s H vs Q E hr h), i.trans hm.at_, beq_iff_eq.mp hm.fn, hb, c⟩
def tRaiseN (C : Addr) (K : PySem.W.Frag) (W : WX) (t : TA) : TS := fun _ σ H => tMkN C (spBaseK K) t σ H fun cls d H' => W cls d σ H'
theorem ps_raiseN {X : Cx} {k : Nat} {x : Str} {C : Addr} {p pos pos2 : Pos} {e : Expr} {es : List Expr} {t : TA} {W : WX} (hc : X.calm = true) (G : InhOk X.prog X.w X.K X.mg X.base k C x) (hr : Room (k + 1) X.A) (tk : Takes X W) (ha : PA X (e :: es) t) (hg : Gl X x := by rfl) (hdb : (x == ("__debug__" : Str)) = false := by decide)
    (he : starEach (e :: es) X.env = (false, eval e X.env) :: starEach es X.env := by rfl) (hpl : (backTo pos (starEach es X.env)).any (·.1) = false := by rfl) :
    PS X (.Raise (some (.Call (.Name x p) (e :: es) [] pos)) none pos2) (tRaiseN C X.K W t) := by
  obtain ⟨f, fd, ps, F, iC, tI, hb, c⟩ := G.ex
  exact ps_raise hc tk (pmk_oexN c.ox iC tI F hr hb pass0 hg c.mg ha hdb he hpl)
theorem errMkN {K : PySem.W.Frag} {C : Addr} {w : V} {H1 : Hp} {Q : XK} (o : OexC K C) (q : ∀ H', Same H1 H' → Q (.ref C) none H') :
    [w].length ≤ 1000 ∧ ∀ a, H1 a = none → spBaseK K (.ref a :: ([w] ++ [])) (upd H1 a (exo a C none)) (fun v H2 => v = .non ∧ H2 a = some (exo a C none) ∧ Q (.ref C) none (del H2 a)) (fun _ _ _ => False) := by
  refine ⟨by show 1 ≤ 1000; decide, fun a ha => ⟨a, C, w, rfl, o, upd_same, rfl, upd_same, q _ fun c u hc => ?_⟩⟩
  rw [del_ne (ne_of_none hc ha), upd_ne (ne_of_none hc ha)]
  exact hc
structure NeAt (K : PySem.W.Frag) (C : Addr) : Prop where
  at_ : PySem.W.findIn K (.ref C) "__ne__" = some (some (.builtin "object.__ne__"))
  ob : PySem.W.subIn K (.ref C) (.type "object") = some true
def rNeL (K : PySem.W.Frag) (C : Addr) (sp : Sp) : R2 := fun x y H Q => ∃ a dx fs b dy gs, x = .ref a ∧ H a = some (.ins C dx fs) ∧ y = .ref b ∧ H b = some (.ins C dy gs) ∧ sp [x, y] H (fun v H2 => ∃ b, v = .bl b ∧ Q (.bl (!b)) H2) E0
theorem ifBoundB {M : Model} {A : Around} {E : Value → Shared → Prop} {s : Shared} {K : PySem.W.Frag} {x C : Addr} {ox : Obj} {od : Option Obj} {name : Str} {id : String} {args : List Value} {Q : Option Value → Shared → Prop} (Y : K.In s.heap) (J : PySem.W.InstAt s.heap x ox C od)
    (hs : PySem.W.findIn K (.ref C) name = some (some (.builtin id))) (S : Slot "object" name id) (h : wpAny M A (call (.builtin id) (.ref x :: args)) (fun v => Q (some v)) E s) : wpAny M A (callSpecialIfBound? (.ref x) name args) Q E s := by
  simp only [callSpecialIfBound?, bindSpecialIfBound?]
  refine wpAny_holding (wpAny_bind (wpAny_bind (wpAny_bind (J.type.here ((PySem.W.looks_findIn Y hs).here ?_)))))
  simp only [S.bind]
  refine wpAny_bind (wpAny_askSetting (wpAny_ite ?_))
  have fin : wpAny M A (call (.builtin id) ([.ref x] ++ args) >>= fun v => pure (some v)) Q E s := wpAny_bind (wpAny_mono h (fun v s' h' => wpAny_pure h') fun _ _ h' => h')
  split
  · exact wpAny_bind (wpAny_pure (wpAny_pure (by exact fin)))
  · exact wpAny_tryCatch (wpAny_bind (wpAny_pure (wpAny_pure (by exact fin))))
end My
namespace My
open PySem PySem.Spec PyProof.Rows L2
section
variable {prog : Program} {w : World} {E : Value → Shared → Prop} {s : Shared} {K : PySem.W.Frag} {x C L f : Addr} {h₀ : Heap} {m : Str → Option Value} {ox : Obj} {od : Option Obj} {b tb : Value}
theorem ne_ask {A : Around} {Q : Fin → Shared → Prop} (Y : K.In s.heap) (J : PySem.W.InstAt s.heap x ox C od) (hs : PySem.W.findIn K (.ref C) "__eq__" = some (some (.ref f))) (hf : PySem.W.isFn K (.ref f) = true) (hu : A.units < cLine)
    (h : wpAny (model prog w) A (call (.ref f) [.ref x, b]) (fun v s' => ∃ r, v = .bool r ∧ Q (.done (.ret (.bool (!r)))) s') E s) : wpAny (model prog w) A (Builtin.«object.__ne__» ⟨[.ref x, b], []⟩) Q E s := by
  unfold Builtin.«object.__ne__»
  repeat (first
    | with_reducible refine wpAny_cRoomFor hu ?_
    | (refine wpAny_bind (m := callSpecialIfBound? (.ref x) (Str.ofString "__eq__") [b]) (PySem.W.ifBound_K Y J hs hf (wpAny_mono h (fun v s' hv => by
          obtain ⟨r, rfl, hq⟩ := hv
          repeat (first | exact hq | exact wpAny_pure hq | exact wpAny_truthy_bool hq | (refine wpAny_bind (m := truthy (.bool _)) (wpAny_truthy_bool ?_)) | wp_step)) fun _ _ e => e)))
    | wp_step)
theorem ne_K {A : Around} {Q : Value → Shared → Prop} (hu : A.units + 1 < cLine) (FR : Fr h₀ L s.heap m) (Y₀ : K.In h₀) (J : PySem.W.InstAt s.heap x ox C od) (hb : PySem.W.Looks (model prog w) s.heap (typeOf b) tb) (hn : PySem.W.notFirst K C tb = true) (N : NeAt K C)
    (hs : PySem.W.findIn K (.ref C) "__eq__" = some (some (.ref f))) (hf : PySem.W.isFn K (.ref f) = true)
    (h : wpAny (model prog w) A.in1 (call (.ref f) [.ref x, b]) (fun v s' => ∃ r, v = .bool r ∧ Q (.bool (!r)) s') E s) : wpAny (model prog w) A (richCompare .NotEq (.ref x) b) Q E s := by
  have Y := Y₀.keeps FR.keep
  have one : wpAny (model prog w) A (tryCompare (.ref x) "__ne__" b) (fun r s' => ∃ v, r = some v ∧ Q v s') E s := by
    unfold tryCompare
    refine wpAny_bind (ifBoundB Y J N.at_ F.cmp_object.ne (wpAny_call (codeAny_call_builtin F.cmp_object.ne.plain F.cmpEntry_ne
      (PySem.W.check_slot F.cmpKind_ne F.cmpSplit_ne (J.type.andThen (PySem.W.looks_subIn Y N.ob)) (F.cmpArgs_ne _ _) (ne_ask (A := A.in1) Y J hs hf hu (wpAny_mono h (fun v s' hv => ?_) fun _ _ e => e))))))
    obtain ⟨r, rfl, hq⟩ := hv
    first | exact ⟨r, rfl, wpAny_pure ⟨_, rfl, hq⟩⟩ | exact ⟨r, rfl, wpAny_pure (wpAny_pure ⟨_, rfl, hq⟩)⟩ | exact ⟨r, rfl, ⟨_, rfl, hq⟩⟩
  unfold richCompare
  simp only [oneThing_ref]
  refine wpAny_holding (wpAny_bind (wpAny_cRoomFor (Nat.lt_of_succ_lt hu) ?_))
  refine wpAny_bind (J.type.here (wpAny_bind (hb.here ?_)))
  split
  · rename_i q
    have e : PySem.W.subIn K tb (.ref C) = some false := by
      rcases Bool.or_eq_true_iff.mp hn with e | e
      · rw [beq_iff_eq.mp e] at q; simp at q
      · exact beq_iff_eq.mp e
    refine wpAny_bind ((PySem.W.looks_subIn Y e).here ?_)
    simp only [Bool.false_eq_true, if_false]
    refine wpAny_bind (wpAny_mono one (fun r s' z => ?_) fun _ _ e => e)
    obtain ⟨v, rfl, hq⟩ := z
    exact wpAny_pure hq
  · refine wpAny_bind (wpAny_pure ?_)
    simp only [Bool.false_eq_true, if_false]
    refine wpAny_bind (wpAny_mono one (fun r s' z => ?_) fun _ _ e => e)
    obtain ⟨v, rfl, hq⟩ := z
    exact wpAny_pure hq
end
section
variable {X : Cx} {k : Nat} {C : Addr} {sp : Sp}
theorem op_neL (G : MethOk X.prog X.w X.K X.mg X.base k C "__eq__" sp) (N : NeAt X.K C) (hr : Room (k + 1) X.A) : OpR X (compareOp .NotEq) (rNeL X.K C sp) := by
  obtain ⟨f, fd, ps, FF, hm, hb, c⟩ := G.ex
  intro pins s σ H x y v u Q I rx ry h
  obtain ⟨a, dx, fs, b, dy, gs, rfl, ha, rfl, hb', h⟩ := h
  obtain rfl : v = Value.ref a := rx
  obtain rfl : u = Value.ref b := ry
  obtain ⟨m, fr⟩ := I.fr
  obtain ⟨mA, O, _⟩ := ins_get I.hok ha
  obtain ⟨od, J, _⟩ := O.look
  obtain ⟨mB, O', _⟩ := ins_get I.hok hb'
  obtain ⟨od', J', _⟩ := O'.look
  show wpAny (model X.prog X.w) X.A (richCompare .NotEq (.ref a) (.ref b)) (EP X pins σ Q) X.xe s
  refine ne_K (tb := .ref C) (by have := hr.un; omega) fr I.ok.mod.kin J J'.type notFirst_self N hm.at_ hm.fn ?_
  have hl : ([.ref a, .ref b] : List Value).length = ps.length := by
    have e : Vals [V.ref a, .ref b] [Value.ref a, .ref b] := .cons rfl (.cons rfl .nil)
    rw [← e.length]
    exact FF.len _ _ _ _ h
  have hbt := hb s [.ref a, .ref b] I.kIn (by simpa using hl)
  rw [List.append_nil] at hbt
  refine wpAny_call (codeAny_mono (FF.run X.A.in1 X.stack s H ⟨[.ref a, .ref b], []⟩ [.ref a, .ref b] [.ref a, .ref b] _ E0 hr.in1 I.env0.in1 hbt (.cons rfl (.cons rfl .nil)) h) fun r s' hq => ?_)
  cases r with
  | error e => exact hq.elim
  | ok fl =>
    cases fl with
    | ret u =>
      obtain ⟨z, H1, I1, rz, r, ez, q⟩ := I.after hq
      subst ez
      cases rz
      exact ⟨r, rfl, .bl (!r), H1, I1, rfl, q⟩
    | next => exact False.elim hq
    | brk => exact False.elim hq
    | cont => exact False.elim hq
def tAddX (C : Addr) (sp : Sp) (E : L2.St → XK) (ta tb : TE) : TE := fun σ H Q => ta σ H fun x H1 => tb σ H1 fun y H2 => ∃ a dx fs b dy gs, x = .ref a ∧ H2 a = some (.ins C dx fs) ∧ y = .ref b ∧ H2 b = some (.ins C dy gs) ∧ sp [x, y] H2 (fun v H3 => Q v H3) (E σ)
theorem pe_addX {l r : Expr} {pos : Pos} {ta tb : TE} {W : WX} (hl : PE X l ta) (hrt : PE X r tb) (G : MethX X.prog X.w X.K X.mg X.base k C "__add__" sp) (hr : Room k X.A) (hc : PySem.W.selfFirst X.K C = true) (tk : Takes X W) : PE X (.BinOp l .Add r pos) (tAddX C sp (WE W) ta tb) := by
  obtain ⟨f, fd, ps, FF, hm, hb, c⟩ := G.ex
  refine ⟨fun pins s σ H Q I h => ?_⟩
  refine wpAny_BinOp (binT hl hrt I h fun v u s2 x y H2 I2 rx ry q => ?_)
  obtain ⟨a, dx, fs, b, dy, gs, rfl, ha, rfl, hb', q⟩ := q
  obtain rfl : v = Value.ref a := rx
  obtain rfl : u = Value.ref b := ry
  obtain ⟨m, fr⟩ := I2.fr
  obtain ⟨mA, O, _⟩ := ins_get I2.hok ha
  obtain ⟨od, J, _⟩ := O.look
  obtain ⟨mB, O', _⟩ := ins_get I2.hok hb'
  obtain ⟨od', J', _⟩ := O'.look
  refine PySem.W.binop_K fr I2.ok.mod.kin J J'.type hc hm.at_ hm.fn (thn (run_fnS (us := [.ref a, .ref b]) (vs := [.ref a, .ref b]) FF hr hb (passAt tk σ) I2 (.cons rfl (.cons rfl .nil)) q) fun w s3 ⟨z, H3, I3, r3, q3⟩ => ?_)
  have nn : w ≠ .notImplemented := fun e => by
    subst e
    cases z <;> first | (cases r3; done) | (exact absurd r3 (by simp [RelV])) | (obtain ⟨_, e⟩ := r3; exact Value.noConfusion e)
  cases w <;> first | exact absurd rfl nn | exact ⟨z, H3, I3, r3, q3⟩
end
end My
namespace My
open PySem PySem.Spec PyProof.Rows L2
structure MakeDX (P : Program) (w : World) (K : PySem.W.Frag) (mg : Str → Option Value) (base : Heap) (k : Nat) (C : Addr) (x : Str) (dvs : List V) (sp : Sp) : Prop where
  ex : ∃ f fd ps, FnOk P w K mg base (L2.CX P w) k f fd ps sp ∧ Mk K C f ∧ Binds K fd ps [] ∧ (∃ ds, Vals dvs ds ∧ Binds K fd ps ds) ∧ mg x = some (.ref C)
theorem FunD.okX2 {P : Program} {w : World} {K : PySem.W.Frag} {mg : Str → Option Value} {base : Heap} {x q : Str} {st : Stmt} {f : Addr} {fd : FuncData} {N ps : List Str} {k : Nat} {sp : Sp} {dvs : List V} {kws : List (Str × V)} (F : FunD K x q (defArgs st) (defBody st) (defScope st) dvs kws f fd) (S : FnScope N ps (defScope st)) (len : ∀ vs H Q E, sp vs H Q E → vs.length = ps.length) (b : BodyX P w K mg base k N q st sp) : FnOk P w K mg base (L2.CX P w) (k + 1) f fd ps sp := by
  obtain ⟨oc, od, dV, kV, doc, pm, an, cdv, ct, osl, rfl, lk, hcd, _, _⟩ := F.ex
  exact fn_of lk hcd S len fun A outer s H vs Q E hr hsp => b f cdv A outer s H vs Q E hr hsp
theorem MethDAt.makeX {P : Program} {w : World} {K : PySem.W.Frag} {mg : Str → Option Value} {base : Heap} {k : Nat} {x q : Str} {C : Addr} {sp : Sp} {N ps : List Str} {st : Stmt} {dvs : List V} (D : MethDAt K C "__init__" q st ps dvs) (c : ClassAt K mg C x) (S : FnScope N ps (defScope st)) (len : ∀ vs H Q E, sp vs H Q E → vs.length = ps.length) (b : BodyX P w K mg base k N q st sp) : MakeDX P w K mg base (k + 1) C x dvs sp := by
  obtain ⟨f, fd, F, hm, hb, hd⟩ := D.ex
  exact ⟨f, fd, ps, FunD.okX2 F S len b, ⟨c.makes, hm.at_, hm.fn, c.kp⟩, hb, hd, c.mg⟩
section
variable {X : Cx} {k : Nat} {x : Str} {C : Addr} {sp : Sp} {p pos : Pos} {e : Expr} {es : List Expr} {t : TA} {dvs : List V} {W : WX}
theorem run_makeSD {f : Addr} {fd : FuncData} {ps : List Str} {CX : CXT} {pins : List (Addr × Obj)} {σ : L2.St} {H : Hp} {s : Shared} {Q : VK} {us ds : List Value} {vs : List V} {E : L2.St → XK} (M : Mk X.K C f) (F : FnOk X.prog X.w X.K X.mg X.base CX k f fd ps sp) (hr : Room (k + 1) X.A) (hb : Binds X.K fd ps ds) (hd : Vals dvs ds)
    (hx : PassesAt CX X σ (E σ)) (I : Inv X pins σ H s) (r : Vals vs us)
    (h : ∀ x dx, H x = none → H dx = none → dx ≠ x → sp (.ref x :: (vs ++ dvs)) (upd (upd H dx (.own x)) x (.ins C dx [])) (fun v H2 => v = .non ∧ Q (.ref x) H2) (E σ)) :
    wpAny (model X.prog X.w) X.A (call (.ref C) us) (EP X pins σ Q) X.xe s := by
  have hq := h (s.heap.objs.size + 1) s.heap.objs.size (I.hok.fresh (Nat.le_succ _)) (I.hok.fresh (Nat.le_refl _)) (Nat.ne_of_lt (Nat.lt_succ_self _))
  have I2 := Inv.made (C := C) I
  have r2 : Vals (V.ref (s.heap.objs.size + 1) :: (vs ++ dvs)) ((Value.ref (s.heap.objs.size + 1) :: us) ++ ds) := .cons rfl (r.append hd)
  have hl : ((Value.ref (s.heap.objs.size + 1) :: us) ++ ds).length = ps.length := by
    have e := r2.length
    rw [F.len _ _ _ _ hq] at e
    exact e.symm
  have hb2 := hb _ (Value.ref (s.heap.objs.size + 1) :: us) I2.kIn hl
  refine wpAny_call (make_map (f := f) I.kIn M.makes M.init (beq_iff_eq.mp M.fn) (codeAny_mono (F.run _ X.stack _ _ ⟨Value.ref (s.heap.objs.size + 1) :: us, []⟩ ((Value.ref (s.heap.objs.size + 1) :: us) ++ ds) _ _ (E σ) (hr.make C us [])
    (I2.env0.make C us []) hb2 r2 hq) fun r s' hq' => ?_))
  cases r with
  | error e => exact hx pins _ _ e s' I2 hq'
  | ok fl =>
    cases fl with
    | ret u =>
      obtain ⟨v, H', I3, rv, ev, q3⟩ := I2.after hq'
      subst ev
      exact ⟨rv, ⟨V.ref (s.heap.objs.size + 1), H', I3, rfl, q3⟩⟩
    | next => exact False.elim hq'
    | brk => exact False.elim hq'
    | cont => exact False.elim hq'
def tMakeDX (C : Addr) (sp : Sp) (dvs : List V) (E : L2.St → XK) (t : TA) : TE := fun σ H Q => t σ H fun vs H1 => ∀ x dx, H1 x = none → H1 dx = none → dx ≠ x →
  sp (.ref x :: (vs ++ dvs)) (upd (upd H1 dx (.own x)) x (.ins C dx [])) (fun v H2 => v = .non ∧ Q (.ref x) H2) (E σ)
theorem pe_makeDX (G : MakeDX X.prog X.w X.K X.mg X.base k C x dvs sp) (hr : Room (k + 1) X.A) (tk : Takes X W) (ha : PA X (e :: es) t) (hg : Gl X x := by rfl) (hdb : (x == ("__debug__" : Str)) = false := by decide)
    (he : starEach (e :: es) X.env = (false, eval e X.env) :: starEach es X.env := by rfl) (hpl : (backTo pos (starEach es X.env)).any (·.1) = false := by rfl) : PE X (.Call (.Name x p) (e :: es) [] pos) (tMakeDX C sp [] (WE W) t) := by
  obtain ⟨f, fd, ps, F, M, hb, _, hm⟩ := G.ex
  refine ⟨fun pins s σ H Q I h => ?_⟩
  refine wpAny_Call_Name_kw (ld_glob I hg hm ?_ hdb)
  refine PySem.W.callWith_K (h₀ := X.base) I.ok.mod.kin M.kp (thn (ha.run pos pins s σ H _ I h) fun us s1 ⟨vs, H1, I1, r, q⟩ => ⟨I1.kIn, ?_⟩) he hpl
  exact run_makeSD M F hr hb .nil (passAt tk σ) I1 r q
theorem pe_makeD1X (G : MakeDX X.prog X.w X.K X.mg X.base k C x dvs sp) (hr : Room (k + 1) X.A) (tk : Takes X W) (ha : PA X (e :: es) t) (hg : Gl X x := by rfl) (hdb : (x == ("__debug__" : Str)) = false := by decide)
    (he : starEach (e :: es) X.env = (false, eval e X.env) :: starEach es X.env := by rfl) (hpl : (backTo pos (starEach es X.env)).any (·.1) = false := by rfl) : PE X (.Call (.Name x p) (e :: es) [] pos) (tMakeDX C sp dvs (WE W) t) := by
  obtain ⟨f, fd, ps, F, M, _, ⟨ds, hd, hb⟩, hm⟩ := G.ex
  refine ⟨fun pins s σ H Q I h => ?_⟩
  refine wpAny_Call_Name_kw (ld_glob I hg hm ?_ hdb)
  refine PySem.W.callWith_K (h₀ := X.base) I.ok.mod.kin M.kp (thn (ha.run pos pins s σ H _ I h) fun us s1 ⟨vs, H1, I1, r, q⟩ => ⟨I1.kIn, ?_⟩) he hpl
  exact run_makeSD M F hr hb hd (passAt tk σ) I1 r q
end
theorem eqv_str2 (a b : Str) : PyData.eqv (.str a) (.str b) = decide (a = b) := by
  simp only [PyData.eqv]
  by_cases h : a = b <;> simp [h]
theorem eqv_bool2 (a b : Bool) : PyData.eqv (.bool a) (.bool b) = decide (a = b) := by
  simp only [PyData.eqv]
  cases a <;> cases b <;> rfl
theorem eqvAll_map {α : Type} (f : α → PyData) : ∀ (xs ys : List α), (∀ x ∈ xs, ∀ y ∈ ys, PyData.eqv (f x) (f y) = true → x = y) → PyData.eqvAll (xs.map f) (ys.map f) = true → xs = ys
  | [], [], _, _ => rfl
  | [], _ :: _, _, h => by simp [PyData.eqvAll] at h
  | _ :: _, [], _, h => by simp [PyData.eqvAll] at h
  | x :: xs, y :: ys, hf, h => by
    simp only [List.map_cons, PyData.eqvAll, Bool.and_eq_true] at h
    rw [hf x List.mem_cons_self y List.mem_cons_self h.1, eqvAll_map f xs ys (fun a ha b hb => hf a (List.mem_cons_of_mem _ ha) b (List.mem_cons_of_mem _ hb)) h.2]
theorem refD_eqv {r s : Ref} (h : PyData.eqv (refD r) (refD s) = true) : r = s := by
  unfold refD at h
  simp only [PyData.eqv, PyData.eqvAll, Bool.and_eq_true] at h
  obtain ⟨h1, h2, _⟩ := h
  have a := of_decide_eq_true ((eqv_str2 _ _).symm.trans (by simpa only [PyData.eqv] using h1))
  have b := of_decide_eq_true ((eqv_str2 _ _).symm.trans (by simpa only [PyData.eqv] using h2))
  exact Prod.ext a b
theorem entD_eqv {a b : Ent} (h : PyData.eqv (entD a) (entD b) = true) : a = b := by
  unfold entD refsD at h
  simp only [PyData.eqv, PyData.eqvAll, Bool.and_eq_true] at h
  obtain ⟨h1, h2, h3, _⟩ := h
  have e1 := of_decide_eq_true ((eqv_str2 _ _).symm.trans (by simpa only [PyData.eqv] using h1))
  have e2 := of_decide_eq_true ((eqv_bool2 _ _).symm.trans (by simpa only [PyData.eqv] using h2))
  have e3 := eqvAll_map refD _ _ (fun _ _ _ _ => refD_eqv) h3
  exact Prod.ext e1 (Prod.ext e2 e3)
theorem planD_eqv {p q : Plan} (h : PyData.eqv (planD p) (planD q) = true) : p = q := by
  unfold planD at h
  simp only [PyData.eqv] at h
  exact eqvAll_map entD _ _ (fun _ _ _ _ => entD_eqv) h
theorem planD_dec {p q : Plan} (g : Good p) : PyData.eqv (planD p) (planD q) = decide (p = q) := by
  by_cases h : p = q
  · subst h
    rw [g.fine.self]
    simp
  · rw [decide_eq_false h]
    cases c : PyData.eqv (planD p) (planD q) with
    | false => rfl
    | true => exact absurd (planD_eqv c) h
end My
namespace My
open PySem PySem.Spec PyProof.Rows L2
mutual
inductive Th (H : Hp) : V → PyData → Prop
  | non : Th H .non .none
  | bl (b : Bool) : Th H (.bl b) (.bool b)
  | int (i : Int) : Th H (.int i) (.int i)
  | str (x : Str) : Th H (.str x) (.str x)
  | tup {a : Addr} {xs : List V} {ds : List PyData} : H a = some (.tup xs) → ThAll H xs ds → Th H (.ref a) (.tuple ds)
  | lst {a : Addr} {xs : List V} {ds : List PyData} : H a = some (.lst xs) → ThAll H xs ds → Th H (.ref a) (.list ds)
inductive ThAll (H : Hp) : List V → List PyData → Prop
  | nil : ThAll H [] []
  | cons {v : V} {vs : List V} {d : PyData} {ds : List PyData} : Th H v d → ThAll H vs ds → ThAll H (v :: vs) (d :: ds)
end
section
variable {H H' : Hp} {K : PySem.W.Frag}
mutual
theorem Th.same (e : Same H H') : ∀ {v : V} {d : PyData}, Th H v d → Th H' v d
  | _, _, .non => .non
  | _, _, .bl b => .bl b
  | _, _, .int i => .int i
  | _, _, .str x => .str x
  | _, _, .tup h r => .tup (e _ _ h) (ThAll.same e r)
  | _, _, .lst h r => .lst (e _ _ h) (ThAll.same e r)
theorem ThAll.same (e : Same H H') : ∀ {vs : List V} {ds : List PyData}, ThAll H vs ds → ThAll H' vs ds
  | _, _, .nil => .nil
  | _, _, .cons h r => .cons (Th.same e h) (ThAll.same e r)
end
mutual
theorem Td.th : ∀ {v : V} {d : PyData}, Td H v d → Th H v d
  | _, _, .non => .non
  | _, _, .bl b => .bl b
  | _, _, .int i => .int i
  | _, _, .str x => .str x
  | _, _, .tup h r => .tup h (TdAll.th r)
theorem TdAll.th : ∀ {vs : List V} {ds : List PyData}, TdAll H vs ds → ThAll H vs ds
  | _, _, .nil => .nil
  | _, _, .cons h r => .cons (Td.th h) (TdAll.th r)
end
mutual
theorem Th.dp : ∀ {v : V} {d : PyData}, Th H v d → Dp K H v d
  | _, _, .non => .non
  | _, _, .bl b => .bl b
  | _, _, .int i => .int i
  | _, _, .str x => .str x
  | _, _, .tup h r => .tup (SqT.of h) (ThAll.dp r)
  | _, _, .lst h r => .lst (SqL.of h) (ThAll.dp r)
theorem ThAll.dp : ∀ {vs : List V} {ds : List PyData}, ThAll H vs ds → DpAll K H vs ds
  | _, _, .nil => .nil
  | _, _, .cons h r => .cons (Th.dp h) (ThAll.dp r)
end
theorem ThAll.length : ∀ {vs : List V} {ds : List PyData}, ThAll H vs ds → vs.length = ds.length
  | _, _, .nil => rfl
  | _, _, .cons _ r => by rw [List.length_cons, List.length_cons, ThAll.length r]
theorem ThAll.append : ∀ {vs ws : List V} {ds es : List PyData}, ThAll H vs ds → ThAll H ws es → ThAll H (vs ++ ws) (ds ++ es)
  | _, _, _, _, .nil, h => h
  | _, _, _, _, .cons a r, h => .cons a (ThAll.append r h)
theorem ThAll.get : ∀ {vs : List V} {ds : List PyData} {i : Nat} {v : V}, ThAll H vs ds → vs[i]? = some v → ∃ d, ds[i]? = some d ∧ Th H v d
  | _, _, _, _, .nil, h => by simp at h
  | _, _, 0, _, .cons a r, h => by
    simp at h
    subst h
    exact ⟨_, rfl, a⟩
  | _, _, i + 1, _, .cons a r, h => ThAll.get (i := i) r (by simpa using h)
theorem ThAll.get' : ∀ {vs : List V} {ds : List PyData} {i : Nat} {d : PyData}, ThAll H vs ds → ds[i]? = some d → ∃ v, vs[i]? = some v ∧ Th H v d
  | _, _, _, _, .nil, h => by simp at h
  | _, _, 0, _, .cons a r, h => by
    simp at h
    subst h
    exact ⟨_, rfl, a⟩
  | _, _, i + 1, _, .cons a r, h => ThAll.get' (i := i) r (by simpa using h)
theorem ThAll.take : ∀ {vs : List V} {ds : List PyData} (k : Nat), ThAll H vs ds → ThAll H (vs.take k) (ds.take k)
  | _, _, 0, _ => by simp only [List.take_zero]; exact .nil
  | _, _, k + 1, .nil => .nil
  | _, _, k + 1, .cons a r => .cons a (ThAll.take k r)
theorem ThAll.drop : ∀ {vs : List V} {ds : List PyData} (k : Nat), ThAll H vs ds → ThAll H (vs.drop k) (ds.drop k)
  | _, _, 0, h => h
  | _, _, k + 1, .nil => .nil
  | _, _, k + 1, .cons a r => ThAll.drop k r
theorem ThAll.set : ∀ {vs : List V} {ds : List PyData} (i : Nat) {v : V} {d : PyData}, ThAll H vs ds → Th H v d → ThAll H (vs.set i v) (ds.set i d)
  | _, _, _, _, _, .nil, _ => .nil
  | _, _, 0, _, _, .cons a r, h => .cons h r
  | _, _, i + 1, _, _, .cons a r, h => .cons a (ThAll.set i r h)
theorem ThAll.cut {xs : List V} {ds : List PyData} (h : ThAll H xs ds) (lo hi : Option Int) : ThAll H (cutV xs lo hi) (cutL ds lo hi) := by
  unfold cutV cutL
  rw [← h.length]
  exact (h.drop _).take _
theorem Th.ty {v : V} {d : PyData} (h : Th H v d) : ∃ t : String, TyX K H v (.type t) ∧ t = (match d with | .none => "NoneType" | .bool _ => "bool" | .int _ => "int" | .str _ => "str" | .list _ => "list" | .tuple _ => "tuple" | .dict _ => "dict") := by
  cases h with
  | non => exact ⟨_, .base .non, rfl⟩
  | bl b => exact ⟨_, .base (.bl b), rfl⟩
  | int i => exact ⟨_, .base (.int i), rfl⟩
  | str x => exact ⟨_, .base (.str x), rfl⟩
  | tup h r => exact ⟨_, .base (.tup h), rfl⟩
  | lst h r => exact ⟨_, .base (.lst h), rfl⟩
theorem Th.notStr {v : V} {d : PyData} (h : Th H v d) (n : ∀ x, d ≠ .str x) : ∃ t, TyX K H v t ∧ PySem.W.kitOne K t (.type "str") = some false := by
  cases h with
  | non => exact ⟨_, .base .non, kit_ty (by decide +kernel)⟩
  | bl b => exact ⟨_, .base (.bl b), kit_ty (by decide +kernel)⟩
  | int i => exact ⟨_, .base (.int i), kit_ty (by decide +kernel)⟩
  | str x => exact absurd rfl (n x)
  | tup h r => exact ⟨_, .base (.tup h), kit_ty (by decide +kernel)⟩
  | lst h r => exact ⟨_, .base (.lst h), kit_ty (by decide +kernel)⟩
theorem Th.notTup {v : V} {d : PyData} (h : Th H v d) (n : ∀ x, d ≠ .tuple x) : ∃ t, TyX K H v t ∧ PySem.W.kitOne K t (.type "tuple") = some false := by
  cases h with
  | non => exact ⟨_, .base .non, kit_ty (by decide +kernel)⟩
  | bl b => exact ⟨_, .base (.bl b), kit_ty (by decide +kernel)⟩
  | int i => exact ⟨_, .base (.int i), kit_ty (by decide +kernel)⟩
  | str x => exact ⟨_, .base (.str x), kit_ty (by decide +kernel)⟩
  | tup h r => exact absurd rfl (n _)
  | lst h r => exact ⟨_, .base (.lst h), kit_ty (by decide +kernel)⟩
def isBoolD : PyData → Bool
  | .bool _ => true
  | _ => false
def isStrD : PyData → Bool
  | .str _ => true
  | _ => false
theorem Th.askBool {v : V} {d : PyData} (h : Th H v d) : ∃ t, TyX K H v t ∧ PySem.W.kitOne K t (.type "bool") = some (isBoolD d) := by
  cases h with
  | non => exact ⟨_, .base .non, kit_ty (by decide +kernel)⟩
  | bl b => exact ⟨_, .base (.bl b), kit_ty (show kitB "bool" "bool" = some true by decide +kernel)⟩
  | int i => exact ⟨_, .base (.int i), kit_ty (show kitB "int" "bool" = some false by decide +kernel)⟩
  | str x => exact ⟨_, .base (.str x), kit_ty (show kitB "str" "bool" = some false by decide +kernel)⟩
  | tup h r => exact ⟨_, .base (.tup h), kit_ty (show kitB "tuple" "bool" = some false by decide +kernel)⟩
  | lst h r => exact ⟨_, .base (.lst h), kit_ty (show kitB "list" "bool" = some false by decide +kernel)⟩
theorem Th.askStr {v : V} {d : PyData} (h : Th H v d) : ∃ t, TyX K H v t ∧ PySem.W.kitOne K t (.type "str") = some (isStrD d) := by
  cases h with
  | non => exact ⟨_, .base .non, kit_ty (by decide +kernel)⟩
  | bl b => exact ⟨_, .base (.bl b), kit_ty (show kitB "bool" "str" = some false by decide +kernel)⟩
  | int i => exact ⟨_, .base (.int i), kit_ty (show kitB "int" "str" = some false by decide +kernel)⟩
  | str x => exact ⟨_, .base (.str x), kit_ty (show kitB "str" "str" = some true by decide +kernel)⟩
  | tup h r => exact ⟨_, .base (.tup h), kit_ty (show kitB "tuple" "str" = some false by decide +kernel)⟩
  | lst h r => exact ⟨_, .base (.lst h), kit_ty (show kitB "list" "str" = some false by decide +kernel)⟩
theorem Th.tup_inv {v : V} {ds : List PyData} (h : Th H v (.tuple ds)) : ∃ a xs, v = .ref a ∧ H a = some (.tup xs) ∧ ThAll H xs ds := by
  cases h with
  | tup h r => exact ⟨_, _, rfl, h, r⟩
theorem Th.str_inv {v : V} {x : Str} (h : Th H v (.str x)) : v = .str x := by cases h; rfl
theorem Th.bl_inv {v : V} {b : Bool} (h : Th H v (.bool b)) : v = .bl b := by cases h; rfl
end
def isD (b : Bool) : PyData → Bool
  | .bool a => decide (a = b)
  | _ => false
theorem isD_or (d : PyData) : (isD true d || isD false d) = isBoolD d := by
  cases d with
  | bool b => cases b <;> rfl
  | none => rfl
  | int _ => rfl
  | str _ => rfl
  | list _ => rfl
  | tuple _ => rfl
  | dict _ => rfl
def rIsAny : R2 := fun x y H Q => ∃ (b : Bool) (d : PyData), y = .bl b ∧ Th H x d ∧ Q (.bl (isD b d)) H
theorem op_isAny {X : Cx} : OpR X (compareOp .Is) rIsAny := by
  intro pins s σ H x y v u Q I rx ry h
  obtain ⟨b, d, rfl, hT, q⟩ := h
  have ru : u = Value.bool b := ry
  subst ru
  cases hT with
  | bl a => exact op_isBl pins s σ H (.bl a) (.bl b) v _ Q I rx ry ⟨a, b, rfl, rfl, q⟩
  | non =>
    cases (show v = Value.none from rx)
    exact wpAny_is_other rfl (fun z => nomatch z) ⟨.bl false, H, I, rfl, q⟩
  | int i =>
    obtain ⟨t, rfl⟩ := (show ∃ t, v = Value.int i t from rx)
    exact wpAny_is_other rfl (fun z => nomatch z) ⟨.bl false, H, I, rfl, q⟩
  | str w =>
    obtain ⟨t, rfl⟩ := (show ∃ t, v = Value.str w t from rx)
    exact wpAny_is_other rfl (fun z => nomatch z) ⟨.bl false, H, I, rfl, q⟩
  | tup h r =>
    cases (show v = Value.ref _ from rx)
    exact wpAny_is_other rfl (fun z => nomatch z) ⟨.bl false, H, I, rfl, q⟩
  | lst h r =>
    cases (show v = Value.ref _ from rx)
    exact wpAny_is_other rfl (fun z => nomatch z) ⟨.bl false, H, I, rfl, q⟩
end My
namespace My
open PySem PySem.Spec PyProof.Rows L2
def rSlH : V → Option Int → Option Int → Hp → VK → Prop := fun x lo hi H Q => ∃ ds, Th H x (.tuple ds) ∧ ∀ v H', Same H H' → Th H' v (.tuple (cutL ds lo hi)) → Q v H'
theorem sl_tupH {X : Cx} : SlR X rSlH := by
  intro pins s σ H x v vl vu lo hi sl Q I rx hs pl pu h
  obtain ⟨ds, hT, q⟩ := h
  obtain ⟨a, xs, rfl, ha, hx⟩ := hT.tup_inv
  refine sl_tupA pins s σ H _ v vl vu lo hi sl Q I rx hs pl pu ⟨a, xs, rfl, SqT.of ha, fun hw => ?_, fun _ p hp => ?_⟩
  · have e : cutL ds lo hi = ds := by
      unfold cutL
      rw [← hx.length, hw.1, hw.2, List.drop_zero, Nat.sub_zero, hx.length, List.take_length]
    refine q _ _ (Same.refl H) ?_
    rw [e]
    exact .tup ha hx
  · have t1 := Same.upd (o := .tup (cutV xs lo hi)) (Same.refl H) hp
    exact q _ _ t1 (.tup upd_same ((hx.cut lo hi).same t1))
def rCatH : R2 := fun x y H Q => ∃ ds es, Th H x (.tuple ds) ∧ Th H y (.tuple es) ∧ ds.length + es.length ≤ 1000 ∧ ∀ v H', Same H H' → Th H' v (.tuple (ds ++ es)) → Q v H'
theorem op_catH {X : Cx} : OpR X (binaryOp .Add) rCatH := by
  intro pins s σ H x y v u Q I rx ry h
  obtain ⟨ds, es, hT, hU, hl, q⟩ := h
  obtain ⟨a, xs, rfl, ha, hx⟩ := hT.tup_inv
  obtain ⟨b, ys, rfl, hb, hy⟩ := hU.tup_inv
  refine op_catA pins s σ H _ _ v u Q I rx ry ⟨a, b, xs, ys, rfl, rfl, SqT.of ha, SqT.of hb, ?_, fun h0 => ?_, fun _ h0 => ?_, fun _ _ p hp => ?_⟩
  · rw [hx.length, hy.length]
    exact Nat.le_trans hl (by decide)
  · subst h0
    cases hx
    exact q _ _ (Same.refl H) (.tup hb hy)
  · subst h0
    cases hy
    refine q _ _ (Same.refl H) ?_
    rw [List.append_nil]
    exact .tup ha hx
  · have t1 := Same.upd (o := .tup (xs ++ ys)) (Same.refl H) hp
    exact q _ _ t1 (.tup upd_same ((hx.append hy).same t1))
def prs (pl : Plan) : List Ref := pl.flatMap fun e => e.2.2.map fun r => (e.1, r.1)
def oneOfB (d : PyData) (ws : List Str) : Bool := match d with
  | .str x => decide (x ∈ ws)
  | _ => false
def pairB (a b : PyData) (ps : List Ref) : Bool := match a, b with
  | .str x, .str y => decide ((x, y) ∈ ps)
  | _, _ => false
def loadB (pl : Plan) (w t m f : PyData) : Bool := oneOfB w ["load"] && (oneOfB m ["raw", "blank", "refuse"] && (isBoolD f && oneOfB t (pl.map (·.1))))
def colB (pl : Plan) (w t c : PyData) : Bool := oneOfB w ["patch", "fill", "sweep"] && pairB t c (prs pl)
def stepB (pl : Plan) : PyData → Bool
  | .tuple [w, t, m, f] => loadB pl w t m f
  | .tuple [w, t, c] => colB pl w t c
  | _ => false
theorem oneOf_inv {d : PyData} {ws : List Str} (h : oneOfB d ws = true) : ∃ x, d = .str x ∧ x ∈ ws := by
  unfold oneOfB at h
  cases d with
  | str x => exact ⟨x, rfl, of_decide_eq_true h⟩
  | none => cases h
  | bool _ => cases h
  | int _ => cases h
  | list _ => cases h
  | tuple _ => cases h
  | dict _ => cases h
theorem isBoolD_inv {d : PyData} (h : isBoolD d = true) : ∃ b, d = .bool b := by
  unfold isBoolD at h
  cases d with
  | bool b => exact ⟨b, rfl⟩
  | none => cases h
  | str _ => cases h
  | int _ => cases h
  | list _ => cases h
  | tuple _ => cases h
  | dict _ => cases h
theorem prs_iff {pl : Plan} {n c : Str} : ((n, c) : Ref) ∈ prs pl ↔ ∃ e ∈ pl, e.1 = n ∧ c ∈ e.2.2.map (·.1) := by
  constructor
  · intro h
    obtain ⟨e, he, h⟩ := List.mem_flatMap.mp h
    obtain ⟨x, hx, hq⟩ := List.mem_map.mp h
    exact ⟨e, he, (Prod.mk.inj hq).1, List.mem_map.mpr ⟨x, hx, (Prod.mk.inj hq).2⟩⟩
  · rintro ⟨e, he, rfl, hc⟩
    obtain ⟨r, hr, rfl⟩ := List.mem_map.mp hc
    exact List.mem_flatMap.mpr ⟨e, he, List.mem_map.mpr ⟨r, hr, rfl⟩⟩
theorem stepB_step {pl : Plan} {d : PyData} (h : stepB pl d = true) : StepD pl d := by
  unfold stepB at h
  split at h
  · rename_i w t m f
    unfold loadB at h
    simp only [Bool.and_eq_true] at h
    obtain ⟨h1, h2, h3, h4⟩ := h
    obtain ⟨x, rfl, hx⟩ := oneOf_inv h1
    obtain ⟨y, rfl, hy⟩ := oneOf_inv h2
    obtain ⟨b, rfl⟩ := isBoolD_inv h3
    obtain ⟨n, rfl, hn⟩ := oneOf_inv h4
    obtain rfl := List.mem_singleton.mp hx
    exact .load n y b hn hy
  · rename_i w t c
    unfold colB at h
    simp only [Bool.and_eq_true] at h
    obtain ⟨h1, h2⟩ := h
    obtain ⟨x, rfl, hx⟩ := oneOf_inv h1
    unfold pairB at h2
    split at h2
    · exact .col _ _ _ hx (prs_iff.mp (of_decide_eq_true h2))
    · cases h2
  · cases h
theorem step_stepB {pl : Plan} {d : PyData} (h : StepD pl d) : stepB pl d = true := by
  cases h with
  | load n m b hn hm =>
    show loadB pl _ _ _ _ = true
    unfold loadB
    have h1 : oneOfB (.str "load") ["load"] = true := by decide +kernel
    have h2 : oneOfB (.str m) ["raw", "blank", "refuse"] = true := decide_eq_true hm
    have h4 : oneOfB (.str n) (pl.map (·.1)) = true := decide_eq_true hn
    rw [h1, h2, h4]
    rfl
  | col w n c hw hc =>
    show colB pl _ _ _ = true
    unfold colB
    have h1 : oneOfB (.str w) ["patch", "fill", "sweep"] = true := decide_eq_true hw
    have h2 : pairB (.str n) (.str c) (prs pl) = true := decide_eq_true (prs_iff.mpr hc)
    rw [h1, h2]
    rfl
def badAt (pl : Plan) : Nat → List PyData → Option Nat
  | _, [] => none
  | i, d :: r => if 20 ≤ i ∨ stepB pl d = false then some i else badAt pl (i + 1) r
section
variable {CP CS : Addr}
theorem isStrD_not {d : PyData} (h : isStrD d = false) : ∀ x, d ≠ .str x := fun x e => by
  subst e
  cases h
theorem oneOfB_no {d : PyData} {ws : List Str} (h : ∀ x, d ≠ .str x) : oneOfB d ws = false := by
  unfold oneOfB
  cases d with
  | str x => exact absurd rfl (h x)
  | none => rfl
  | bool _ => rfl
  | int _ => rfl
  | list _ => rfl
  | tuple _ => rfl
  | dict _ => rfl
theorem isStrD_inv {d : PyData} (h : isStrD d = true) : ∃ x, d = .str x := by
  cases d with
  | str x => exact ⟨x, rfl⟩
  | none => cases h
  | bool _ => cases h
  | int _ => cases h
  | list _ => cases h
  | tuple _ => cases h
  | dict _ => cases h
end
theorem ThAll.two {H : Hp} {xs : List V} {a b : PyData} (h : ThAll H xs [a, b]) : ∃ x y, xs = [x, y] ∧ Th H x a ∧ Th H y b := by
  cases h with
  | cons h0 r => cases r with
    | cons h1 r => cases r with
      | nil => exact ⟨_, _, rfl, h0, h1⟩
theorem ThAll.three {H : Hp} {xs : List V} {a b c : PyData} (h : ThAll H xs [a, b, c]) : ∃ x y z, xs = [x, y, z] ∧ Th H x a ∧ Th H y b ∧ Th H z c := by
  cases h with
  | cons h0 r => cases r with
    | cons h1 r => cases r with
      | cons h2 r => cases r with
        | nil => exact ⟨_, _, _, rfl, h0, h1, h2⟩
theorem ThAll.four {H : Hp} {xs : List V} {a b c d : PyData} (h : ThAll H xs [a, b, c, d]) : ∃ x y z w, xs = [x, y, z, w] ∧ Th H x a ∧ Th H y b ∧ Th H z c ∧ Th H w d := by
  cases h with
  | cons h0 r => cases r with
    | cons h1 r => cases r with
      | cons h2 r => cases r with
        | cons h3 r => cases r with
          | nil => exact ⟨_, _, _, _, rfl, h0, h1, h2, h3⟩
theorem refs_any (x y : Str) (ps : List Ref) : ((ps.map refD).any fun z => PyData.eqv z (refD (x, y))) = decide ((x, y) ∈ ps) := by
  rw [Bool.eq_iff_iff, List.any_eq_true, decide_eq_true_iff]
  constructor
  · rintro ⟨z, hz, he⟩
    obtain ⟨r, hr, rfl⟩ := List.mem_map.mp hz
    rw [← refD_eqv he]
    exact hr
  · intro h
    refine ⟨_, List.mem_map.mpr ⟨_, h, rfl⟩, ?_⟩
    show PyData.eqv (.tuple [.str x, .str y]) (.tuple [.str x, .str y]) = true
    simp [PyData.eqv, PyData.eqvAll]
theorem canAll_inv : ∀ {ds : List PyData}, PyData.canLayAll0 ds = true → ∀ d ∈ ds, d.canLay0 = true
  | [], _, _, h => absurd h (List.not_mem_nil)
  | d :: r, h, x, hx => by
    simp only [PyData.canLayAll0, Bool.and_eq_true] at h
    rcases List.mem_cons.mp hx with rfl | hx
    · exact h.1
    · exact canAll_inv h.2 x hx
theorem can_tup {ds : List PyData} (h : (PyData.tuple ds).canLay0 = true) : ∀ d ∈ ds, d.canLay0 = true := by
  simp only [PyData.canLay0] at h
  exact canAll_inv h
theorem can_str {x : Str} (h : (PyData.str x).canLay0 = true) : Fine 1 (.str x) := ⟨h, by simp only [PyData.depth]; omega⟩
theorem badAt_none {pl : Plan} : ∀ {ds : List PyData} {i : Nat}, badAt pl i ds = none → ∀ d ∈ ds, stepB pl d = true
  | [], _, _, _, h => absurd h (List.not_mem_nil)
  | d :: r, i, h, x, hx => by
    unfold badAt at h
    split at h
    · cases h
    · rename_i c
      rcases List.mem_cons.mp hx with rfl | hx
      · cases e : stepB pl x with
        | true => rfl
        | false => exact absurd (.inr e) c
      · exact badAt_none h x hx
theorem badAt_at {pl : Plan} {ds : List PyData} {i : Nat} {d : PyData} (h : ds[i]? = some d) : badAt pl i (ds.drop i) = if 20 ≤ i ∨ stepB pl d = false then some i else badAt pl (i + 1) (ds.drop (i + 1)) := by
  have hi := (List.getElem?_eq_some_iff.mp h).1
  rw [List.drop_eq_getElem_cons hi, (List.getElem?_eq_some_iff.mp h).2]
  rfl
theorem badAt_end {pl : Plan} {ds : List PyData} : badAt pl ds.length (ds.drop ds.length) = none := by
  rw [List.drop_length]
  rfl
theorem Th.step {H : Hp} {pl : Plan} {v : V} {d : PyData} (h : Th H v d) (s : StepD pl d) : Td H v d := by
  cases s with
  | load n m b hn hm =>
    obtain ⟨a, xs, rfl, ha, hx⟩ := h.tup_inv
    obtain ⟨x, y, z, w, rfl, h0, h1, h2, h3⟩ := hx.four
    rw [h0.str_inv, h1.str_inv, h2.str_inv, h3.bl_inv] at ha
    exact .tup ha (.cons (.str _) (.cons (.str _) (.cons (.str _) (.cons (.bl _) .nil))))
  | col w n c hw hc =>
    obtain ⟨a, xs, rfl, ha, hx⟩ := h.tup_inv
    obtain ⟨x, y, z, rfl, h0, h1, h2⟩ := hx.three
    rw [h0.str_inv, h1.str_inv, h2.str_inv] at ha
    exact .tup ha (.cons (.str _) (.cons (.str _) (.cons (.str _) .nil)))
theorem ThAll.steps {H : Hp} {pl : Plan} : ∀ {vs : List V} {ds : List PyData}, ThAll H vs ds → (∀ d ∈ ds, StepD pl d) → TdAll H vs ds
  | _, _, .nil, _ => .nil
  | _, _, .cons h r, s => .cons (h.step (s _ List.mem_cons_self)) (ThAll.steps r fun d hd => s d (List.mem_cons_of_mem _ hd))
def nw (H H' : Hp) : Hp := fun c => match H c with
  | some (.lst _) => none
  | _ => H' c
section
variable {H H' H1 H2 : Hp} {a c : Addr} {o : HO} {n : Nat}
theorem nw_of (h : H' c = some o) (k : ∀ ys, H c ≠ some (.lst ys)) : nw H H' c = some o := by
  unfold nw
  split
  · rename_i ys e
    exact absurd e (k ys)
  · exact h
theorem nw_inv (h : nw H H' c = some o) : H' c = some o ∧ ∀ ys, H c ≠ some (.lst ys) := by
  unfold nw at h
  split at h
  · cases h
  · rename_i k
    exact ⟨h, k⟩
theorem nw_same : Same (nw H H') H' := fun _ _ h => (nw_inv h).1
theorem nw_kt (S : StAt H' a n) (e : Fr1 a H H') : KT H' (nw H H') := fun c ys h => by
  refine nw_of h fun zs hz => ?_
  by_cases ca : c = a
  · subst ca
    obtain ⟨xs, hx⟩ := S.lst
    rw [hx] at h
    cases h
  · have := e _ _ ca hz
    rw [this] at h
    cases h
theorem nw_on {ys : List V} (e : Fr1 a H1 H2) (ha : H a = some (.lst ys)) : Same (nw H H1) (nw H H2) := fun c o h => by
  obtain ⟨h1, h2⟩ := nw_inv h
  exact nw_of (e _ _ (fun z => h2 ys (z ▸ ha)) h1) h2
theorem nw_go (e : Same H1 H2) : Same (nw H H1) (nw H H2) := fun c o h => by
  obtain ⟨h1, h2⟩ := nw_inv h
  exact nw_of (e _ _ h1) h2
theorem nw_back (S : StAt H1 a n) (e : Fr1 a H H1) : Same (nw H1 H2) (nw H H2) := fun c o h => by
  obtain ⟨h1, h2⟩ := nw_inv h
  refine nw_of h1 fun zs hz => ?_
  by_cases ca : c = a
  · subst ca
    obtain ⟨xs, hx⟩ := S.lst
    exact h2 _ hx
  · exact h2 _ (e _ _ ca hz)
theorem nw_free (h : H' c = some o) (k : H c = none) : nw H H' c = some o := nw_of h fun ys e => by
  rw [k] at e
  cases e
end
def rCatN : R2 := fun x y H Q => ∃ H0 ds es, Th (nw H0 H) x (.tuple ds) ∧ Th (nw H0 H) y (.tuple es) ∧ (∀ c ys, H0 c = some (.lst ys) → ∃ o, H c = some o) ∧ ds.length + es.length ≤ 1000 ∧ ∀ v H', Same H H' → Th (nw H0 H') v (.tuple (ds ++ es)) → Q v H'
theorem op_catN {X : Cx} : OpR X (binaryOp .Add) rCatN := by
  intro pins s σ H x y v u Q I rx ry h
  obtain ⟨H0, ds, es, hT, hU, hk, hl, q⟩ := h
  obtain ⟨a, xs, rfl, ha0, hx⟩ := hT.tup_inv
  obtain ⟨b, ys, rfl, hb0, hy⟩ := hU.tup_inv
  have ha := (nw_inv ha0).1
  have hb := (nw_inv hb0).1
  refine op_catA pins s σ H _ _ v u Q I rx ry ⟨a, b, xs, ys, rfl, rfl, SqT.of ha, SqT.of hb, ?_, fun h0 => ?_, fun _ h0 => ?_, fun _ _ p hp => ?_⟩
  · rw [hx.length, hy.length]
    exact Nat.le_trans hl (by decide)
  · subst h0
    cases hx
    exact q _ _ (Same.refl H) (.tup hb0 hy)
  · subst h0
    cases hy
    refine q _ _ (Same.refl H) ?_
    rw [List.append_nil]
    exact .tup ha0 hx
  · have t1 := Same.upd (o := .tup (xs ++ ys)) (Same.refl H) hp
    refine q _ _ t1 (.tup (nw_of upd_same fun zs hz => ?_) ((hx.append hy).same (nw_go t1)))
    obtain ⟨o, ho⟩ := hk _ _ hz
    rw [hp] at ho
    cases ho
theorem nw_stay {H H' : Hp} {a : Addr} {n : Nat} (S : StAt H' a n) (e : Fr1 a H H') : ∀ c ys, H c = some (.lst ys) → ∃ o, H' c = some o := fun c ys h => by
  by_cases ca : c = a
  · subst ca
    obtain ⟨xs, hx⟩ := S.lst
    exact ⟨_, hx⟩
  · exact ⟨_, e _ _ ca h⟩
theorem Td.new {H H' : Hp} {a : Addr} {n : Nat} {v : V} {d : PyData} (h : Td H' v d) (S : StAt H' a n) (e : Fr1 a H H') : Th (nw H H') v d := (h.mono (nw_kt S e)).th
end My
namespace My
open PySem L2
def top (i : Nat) : Stmt := PySem.Challenge.pw_carrykeys_k13_steps_refused.main.body.getD i (.Pass ⟨0, 0, 0, 0⟩)
abbrev s_CarryError_init : Stmt := inClass (top 2) 0
abbrev s_NoStep_init : Stmt := inClass (top 17) 0
abbrev s_law_cell_at : Stmt := top 47
abbrev s_law_store : Stmt := top 48
abbrev s_law_draw : Stmt := top 49
abbrev s_law_name : Stmt := top 50
abbrev s_law_tables : Stmt := top 51
abbrev s_law_step : Stmt := top 52
abbrev s_is_flag : Stmt := top 27
abbrev s_is_one_of : Stmt := top 28
abbrev s_is_name : Stmt := top 29
abbrev s_is_reference : Stmt := top 34
abbrev s_are_distinct : Stmt := top 35
abbrev s_are_references : Stmt := top 33
abbrev s_is_table : Stmt := top 32
abbrev s_are_tables : Stmt := top 30
abbrev s_refer_within : Stmt := top 31
abbrev s_Schema_init : Stmt := inClass (top 37) 0
abbrev s_Schema_tables : Stmt := inClass (top 37) 2
abbrev s_Schema_all_columns : Stmt := inClass (top 37) 6
abbrev s_is_load : Stmt := top 44
abbrev s_is_column_step : Stmt := top 45
abbrev s_is_step : Stmt := top 43
abbrev s_Script_init : Stmt := inClass (top 42) 0
abbrev s_Script_kept : Stmt := inClass (top 42) 6
abbrev s_Script_steps : Stmt := inClass (top 42) 7
abbrev s_law_is_step : Stmt := top 53
abbrev s_law_odd_part : Stmt := top 54
abbrev s_law_spoilt : Stmt := top 55
abbrev s_law_others : Stmt := top 56
abbrev s_law_told : Stmt := top 57
abbrev s_law_due : Stmt := top 58
abbrev s_law : Stmt := top 59
theorem sc_CarryError_init : FnScope ["self", "words"] ["self", "words"] (defScope s_CarryError_init) := ⟨rfl, rfl, rfl, by decide +kernel, rfl, by decide +kernel, by decide +kernel⟩
theorem sc_NoStep_init : FnScope ["self", "index"] ["self", "index"] (defScope s_NoStep_init) := ⟨rfl, rfl, rfl, by decide +kernel, rfl, by decide +kernel, by decide +kernel⟩
theorem sc_law_cell_at : FnScope ["script", "k"] ["script", "k"] (defScope s_law_cell_at) := ⟨rfl, rfl, rfl, by decide +kernel, rfl, by decide +kernel, by decide +kernel⟩
theorem sc_law_store : FnScope ["cell"] ["cell"] (defScope s_law_store) := ⟨rfl, rfl, rfl, by decide +kernel, rfl, by decide +kernel, by decide +kernel⟩
theorem sc_law_draw : FnScope ["store", "many", "mixed", "digit"] ["store", "many"] (defScope s_law_draw) := ⟨rfl, rfl, rfl, by decide +kernel, rfl, by decide +kernel, by decide +kernel⟩
theorem sc_law_name : FnScope ["store", "taken", "letters", "style", "name", "at", "letter", "middle", "words", "k"] ["store", "taken"] (defScope s_law_name) := ⟨rfl, rfl, rfl, by decide +kernel, rfl, by decide +kernel, by decide +kernel⟩
theorem sc_law_tables : FnScope ["store", "names", "k", "tables", "name", "columns", "references", "column"] ["store"] (defScope s_law_tables) := ⟨rfl, rfl, rfl, by decide +kernel, rfl, by decide +kernel, by decide +kernel⟩
theorem sc_law_step : FnScope ["store", "tables", "name", "unique", "references", "way"] ["store", "tables"] (defScope s_law_step) := ⟨rfl, rfl, rfl, by decide +kernel, rfl, by decide +kernel, by decide +kernel⟩
theorem sc_is_flag : FnScope ["value"] ["value"] (defScope s_is_flag) := ⟨rfl, rfl, rfl, by decide +kernel, rfl, by decide +kernel, by decide +kernel⟩
theorem sc_is_one_of : FnScope ["value", "words"] ["value", "words"] (defScope s_is_one_of) := ⟨rfl, rfl, rfl, by decide +kernel, rfl, by decide +kernel, by decide +kernel⟩
theorem sc_is_name : FnScope ["value", "letter"] ["value"] (defScope s_is_name) := ⟨rfl, rfl, rfl, by decide +kernel, rfl, by decide +kernel, by decide +kernel⟩
theorem sc_is_reference : FnScope ["value", "column", "target"] ["value"] (defScope s_is_reference) := ⟨rfl, rfl, rfl, by decide +kernel, rfl, by decide +kernel, by decide +kernel⟩
theorem sc_are_distinct : FnScope ["names"] ["names"] (defScope s_are_distinct) := ⟨rfl, rfl, rfl, by decide +kernel, rfl, by decide +kernel, by decide +kernel⟩
theorem sc_are_references : FnScope ["value", "item"] ["value"] (defScope s_are_references) := ⟨rfl, rfl, rfl, by decide +kernel, rfl, by decide +kernel, by decide +kernel⟩
theorem sc_is_table : FnScope ["value", "name", "unique", "references"] ["value"] (defScope s_is_table) := ⟨rfl, rfl, rfl, by decide +kernel, rfl, by decide +kernel, by decide +kernel⟩
theorem sc_are_tables : FnScope ["value", "item"] ["value"] (defScope s_are_tables) := ⟨rfl, rfl, rfl, by decide +kernel, rfl, by decide +kernel, by decide +kernel⟩
theorem sc_refer_within : FnScope ["tables", "names", "item", "_", "target"] ["tables"] (defScope s_refer_within) := ⟨rfl, rfl, rfl, by decide +kernel, rfl, by decide +kernel, by decide +kernel⟩
theorem sc_Schema_init : FnScope ["self", "tables", "entry"] ["self", "tables"] (defScope s_Schema_init) := ⟨rfl, rfl, rfl, by decide +kernel, rfl, by decide +kernel, by decide +kernel⟩
theorem sc_Schema_tables : FnScope ["self"] ["self"] (defScope s_Schema_tables) := ⟨rfl, rfl, rfl, by decide +kernel, rfl, by decide +kernel, by decide +kernel⟩
theorem sc_Schema_all_columns : FnScope ["self", "entry", "column", "_"] ["self"] (defScope s_Schema_all_columns) := ⟨rfl, rfl, rfl, by decide +kernel, rfl, by decide +kernel, by decide +kernel⟩
theorem sc_is_load : FnScope ["schema", "value", "word", "table", "missing", "matching", "entry"] ["schema", "value"] (defScope s_is_load) := ⟨rfl, rfl, rfl, by decide +kernel, rfl, by decide +kernel, by decide +kernel⟩
theorem sc_is_column_step : FnScope ["schema", "value", "word", "table", "column"] ["schema", "value"] (defScope s_is_column_step) := ⟨rfl, rfl, rfl, by decide +kernel, rfl, by decide +kernel, by decide +kernel⟩
theorem sc_is_step : FnScope ["schema", "value"] ["schema", "value"] (defScope s_is_step) := ⟨rfl, rfl, rfl, by decide +kernel, rfl, by decide +kernel, by decide +kernel⟩
theorem sc_Script_init : FnScope ["self", "schema", "steps", "kept", "index", "step"] ["self", "schema", "steps", "kept"] (defScope s_Script_init) := ⟨rfl, rfl, rfl, by decide +kernel, rfl, by decide +kernel, by decide +kernel⟩
theorem sc_Script_kept : FnScope ["self"] ["self"] (defScope s_Script_kept) := ⟨rfl, rfl, rfl, by decide +kernel, rfl, by decide +kernel, by decide +kernel⟩
theorem sc_Script_steps : FnScope ["self"] ["self"] (defScope s_Script_steps) := ⟨rfl, rfl, rfl, by decide +kernel, rfl, by decide +kernel, by decide +kernel⟩
theorem sc_law_is_step : FnScope ["tables", "thing", "part", "found", "columns", "name", "unique", "references", "column", "other"] ["tables", "thing"] (defScope s_law_is_step) := ⟨rfl, rfl, rfl, by decide +kernel, rfl, by decide +kernel, by decide +kernel⟩
theorem sc_law_odd_part : FnScope ["store", "part", "way", "at", "letter", "odd"] ["store", "part"] (defScope s_law_odd_part) := ⟨rfl, rfl, rfl, by decide +kernel, rfl, by decide +kernel, by decide +kernel⟩
theorem sc_law_spoilt : FnScope ["store", "tables", "step", "way", "at", "other", "words", "column", "table", "name", "unique", "references"] ["store", "tables", "step"] (defScope s_law_spoilt) := ⟨rfl, rfl, rfl, by decide +kernel, rfl, by decide +kernel, by decide +kernel⟩
theorem sc_law_others : FnScope ["e"] ["e"] (defScope s_law_others) := ⟨rfl, rfl, rfl, by decide +kernel, rfl, by decide +kernel, by decide +kernel⟩
theorem sc_law_told : FnScope ["frame", "items", "flag", "told", "made", "kept_due", "e"] ["frame", "items", "flag"] (defScope s_law_told) := ⟨rfl, rfl, rfl, by decide +kernel, rfl, by decide +kernel, by decide +kernel⟩
theorem sc_law_due : FnScope ["tables", "items", "flag", "k"] ["tables", "items", "flag"] (defScope s_law_due) := ⟨rfl, rfl, rfl, by decide +kernel, rfl, by decide +kernel, by decide +kernel⟩
theorem sc_law : FnScope ["script", "tables", "store", "lengths", "good", "items", "flag", "passed", "way", "frame", "due", "k", "mended", "size", "told", "at", "cell"] ["script"] (defScope s_law) := ⟨rfl, rfl, rfl, by decide +kernel, rfl, by decide +kernel, by decide +kernel⟩
structure Txt (K : PySem.W.Frag) (mg : Str → Option Value) (CS CP XCarryError XNoStep XNoKept XNoStops XNotSame XNotSafe XNoFlag XNoStrokes XNothingBegun XNoSchema XNoTable XNoColumn XMissing XNoKey XNoRow XTaken XNotClosed XRefused XNoText XT_MISSING_WORDS XT_COLUMN_STEPS : Addr) : Prop where
  c_Schema : ClassAt K mg CS "Schema"
  a_Schema_tables : NoAttr K CS "_tables"
  a_Schema_entries : NoAttr K CS "_entries"
  c_Script : ClassAt K mg CP "Script"
  a_Script_schema : NoAttr K CP "_schema"
  a_Script_steps : NoAttr K CP "_steps"
  a_Script_kept : NoAttr K CP "_kept"
  b_CarryError : BaseAt K mg XCarryError "CarryError"
  e_NoStep : ErrAt K mg XNoStep "NoStep" ["index"]
  e_NoKept : ErrAt K mg XNoKept "NoKept" []
  h_NoKept : PySem.W.findIn K (.ref XNoKept) "__init__" = PySem.W.findIn K (.ref XCarryError) "__init__"
  m_NoStops : mg "NoStops" = some (.ref XNoStops)
  m_NotSame : mg "NotSame" = some (.ref XNotSame)
  m_NotSafe : mg "NotSafe" = some (.ref XNotSafe)
  m_NoFlag : mg "NoFlag" = some (.ref XNoFlag)
  m_NoStrokes : mg "NoStrokes" = some (.ref XNoStrokes)
  m_NothingBegun : mg "NothingBegun" = some (.ref XNothingBegun)
  m_NoSchema : mg "NoSchema" = some (.ref XNoSchema)
  m_NoTable : mg "NoTable" = some (.ref XNoTable)
  m_NoColumn : mg "NoColumn" = some (.ref XNoColumn)
  m_Missing : mg "Missing" = some (.ref XMissing)
  m_NoKey : mg "NoKey" = some (.ref XNoKey)
  m_NoRow : mg "NoRow" = some (.ref XNoRow)
  m_Taken : mg "Taken" = some (.ref XTaken)
  m_NotClosed : mg "NotClosed" = some (.ref XNotClosed)
  m_Refused : mg "Refused" = some (.ref XRefused)
  m_NoText : mg "NoText" = some (.ref XNoText)
  o_NoStep_CarryError : PySem.W.kitOne K (.ref XNoStep) (.ref XCarryError) = some true
  o_NoKept_CarryError : PySem.W.kitOne K (.ref XNoKept) (.ref XCarryError) = some true
  o_NoStep_ValueError : PySem.W.kitOne K (.ref XNoStep) (.type "ValueError") = some true
  o_NoKept_ValueError : PySem.W.kitOne K (.ref XNoKept) (.type "ValueError") = some true
  o_NoStep_NoKept : PySem.W.kitOne K (.ref XNoStep) (.ref XNoKept) = some false
  o_NoKept_NoStep : PySem.W.kitOne K (.ref XNoKept) (.ref XNoStep) = some false
  o_NoStep_NoStops : PySem.W.kitOne K (.ref XNoStep) (.ref XNoStops) = some false
  o_NoStep_NotSame : PySem.W.kitOne K (.ref XNoStep) (.ref XNotSame) = some false
  o_NoStep_NotSafe : PySem.W.kitOne K (.ref XNoStep) (.ref XNotSafe) = some false
  o_NoStep_NoFlag : PySem.W.kitOne K (.ref XNoStep) (.ref XNoFlag) = some false
  o_NoStep_NoStrokes : PySem.W.kitOne K (.ref XNoStep) (.ref XNoStrokes) = some false
  o_NoStep_NothingBegun : PySem.W.kitOne K (.ref XNoStep) (.ref XNothingBegun) = some false
  o_NoStep_NoSchema : PySem.W.kitOne K (.ref XNoStep) (.ref XNoSchema) = some false
  o_NoStep_NoTable : PySem.W.kitOne K (.ref XNoStep) (.ref XNoTable) = some false
  o_NoStep_NoColumn : PySem.W.kitOne K (.ref XNoStep) (.ref XNoColumn) = some false
  o_NoStep_Missing : PySem.W.kitOne K (.ref XNoStep) (.ref XMissing) = some false
  o_NoStep_NoKey : PySem.W.kitOne K (.ref XNoStep) (.ref XNoKey) = some false
  o_NoStep_NoRow : PySem.W.kitOne K (.ref XNoStep) (.ref XNoRow) = some false
  o_NoStep_Taken : PySem.W.kitOne K (.ref XNoStep) (.ref XTaken) = some false
  o_NoStep_NotClosed : PySem.W.kitOne K (.ref XNoStep) (.ref XNotClosed) = some false
  o_NoStep_Refused : PySem.W.kitOne K (.ref XNoStep) (.ref XRefused) = some false
  o_NoStep_NoText : PySem.W.kitOne K (.ref XNoStep) (.ref XNoText) = some false
  o_NoKept_NoStops : PySem.W.kitOne K (.ref XNoKept) (.ref XNoStops) = some false
  o_NoKept_NotSame : PySem.W.kitOne K (.ref XNoKept) (.ref XNotSame) = some false
  o_NoKept_NotSafe : PySem.W.kitOne K (.ref XNoKept) (.ref XNotSafe) = some false
  o_NoKept_NoFlag : PySem.W.kitOne K (.ref XNoKept) (.ref XNoFlag) = some false
  o_NoKept_NoStrokes : PySem.W.kitOne K (.ref XNoKept) (.ref XNoStrokes) = some false
  o_NoKept_NothingBegun : PySem.W.kitOne K (.ref XNoKept) (.ref XNothingBegun) = some false
  o_NoKept_NoSchema : PySem.W.kitOne K (.ref XNoKept) (.ref XNoSchema) = some false
  o_NoKept_NoTable : PySem.W.kitOne K (.ref XNoKept) (.ref XNoTable) = some false
  o_NoKept_NoColumn : PySem.W.kitOne K (.ref XNoKept) (.ref XNoColumn) = some false
  o_NoKept_Missing : PySem.W.kitOne K (.ref XNoKept) (.ref XMissing) = some false
  o_NoKept_NoKey : PySem.W.kitOne K (.ref XNoKept) (.ref XNoKey) = some false
  o_NoKept_NoRow : PySem.W.kitOne K (.ref XNoKept) (.ref XNoRow) = some false
  o_NoKept_Taken : PySem.W.kitOne K (.ref XNoKept) (.ref XTaken) = some false
  o_NoKept_NotClosed : PySem.W.kitOne K (.ref XNoKept) (.ref XNotClosed) = some false
  o_NoKept_Refused : PySem.W.kitOne K (.ref XNoKept) (.ref XRefused) = some false
  o_NoKept_NoText : PySem.W.kitOne K (.ref XNoKept) (.ref XNoText) = some false
  xc_NoStep : ExcC K XNoStep
  xc_NoKept : ExcC K XNoKept
  s_NoStep_NoStep : PySem.W.subIn K (.ref XNoStep) (.ref XNoStep) = some true
  s_NoKept_NoKept : PySem.W.subIn K (.ref XNoKept) (.ref XNoKept) = some true
  s_NoKept_NoStep : PySem.W.subIn K (.ref XNoKept) (.ref XNoStep) = some false
  ve : PySem.W.findCls K (.type "ValueError") (.type "type") "__init__" = some (.val (.builtin "ValueError.__init__"))
  t_MISSING_WORDS : mg "MISSING_WORDS" = some (.ref XT_MISSING_WORDS)
  w_MISSING_WORDS : ∀ H, SqT K H XT_MISSING_WORDS [.str "raw", .str "blank", .str "refuse"]
  t_COLUMN_STEPS : mg "COLUMN_STEPS" = some (.ref XT_COLUMN_STEPS)
  w_COLUMN_STEPS : ∀ H, SqT K H XT_COLUMN_STEPS [.str "patch", .str "fill", .str "sweep"]
  d_CarryError_init : MethAt K XCarryError "__init__" "CarryError.__init__" s_CarryError_init ["self", "words"]
  d_NoStep_init : MethAt K XNoStep "__init__" "NoStep.__init__" s_NoStep_init ["self", "index"]
  d_law_cell_at : DefAt K mg "_law_cell_at" s_law_cell_at ["script", "k"]
  d_law_store : DefAt K mg "_law_store" s_law_store ["cell"]
  d_law_draw : DefAt K mg "_law_draw" s_law_draw ["store", "many"]
  d_law_name : DefAt K mg "_law_name" s_law_name ["store", "taken"]
  d_law_tables : DefAt K mg "_law_tables" s_law_tables ["store"]
  d_law_step : DefAt K mg "_law_step" s_law_step ["store", "tables"]
  d_is_flag : DefAt K mg "is_flag" s_is_flag ["value"]
  d_is_one_of : DefAt K mg "is_one_of" s_is_one_of ["value", "words"]
  d_is_name : DefAt K mg "is_name" s_is_name ["value"]
  d_is_reference : DefAt K mg "_is_reference" s_is_reference ["value"]
  d_are_distinct : DefAt K mg "_are_distinct" s_are_distinct ["names"]
  d_are_references : DefAt K mg "_are_references" s_are_references ["value"]
  d_is_table : DefAt K mg "_is_table" s_is_table ["value"]
  d_are_tables : DefAt K mg "are_tables" s_are_tables ["value"]
  d_refer_within : DefAt K mg "refer_within" s_refer_within ["tables"]
  d_Schema_init : MethAt K CS "__init__" "Schema.__init__" s_Schema_init ["self", "tables"]
  d_Schema_tables : MethAt K CS "tables" "Schema.tables" s_Schema_tables ["self"]
  d_Schema_all_columns : MethAt K CS "all_columns" "Schema.all_columns" s_Schema_all_columns ["self"]
  d_is_load : DefAt K mg "_is_load" s_is_load ["schema", "value"]
  d_is_column_step : DefAt K mg "_is_column_step" s_is_column_step ["schema", "value"]
  d_is_step : DefAt K mg "_is_step" s_is_step ["schema", "value"]
  d_Script_init : MethDAt K CP "__init__" "Script.__init__" s_Script_init ["self", "schema", "steps", "kept"] [.bl true]
  d_Script_kept : PropAt K CP "kept" "Script.kept" s_Script_kept ["self"]
  d_Script_steps : MethAt K CP "steps" "Script.steps" s_Script_steps ["self"]
  d_law_is_step : DefAt K mg "_law_is_step" s_law_is_step ["tables", "thing"]
  d_law_odd_part : DefAt K mg "_law_odd_part" s_law_odd_part ["store", "part"]
  d_law_spoilt : DefAt K mg "_law_spoilt" s_law_spoilt ["store", "tables", "step"]
  d_law_others : DefAt K mg "_law_others" s_law_others ["e"]
  d_law_told : DefAt K mg "_law_told" s_law_told ["frame", "items", "flag"]
  d_law_due : DefAt K mg "_law_due" s_law_due ["tables", "items", "flag"]
  d_law : DefAt K mg "law" s_law ["script"]
  v_LETTERS : ∃ u, mg "LETTERS" = some u ∧ RelV (.str "abcdefghijklmnopqrstuvwxyz") u
  v_LONGEST_NAME : ∃ u, mg "LONGEST_NAME" = some u ∧ RelV (.int 8) u
  v_MOST_TABLES : ∃ u, mg "MOST_TABLES" = some u ∧ RelV (.int 5) u
  v_MOST_REFERENCES : ∃ u, mg "MOST_REFERENCES" = some u ∧ RelV (.int 3) u
  v_MOST_STEPS : ∃ u, mg "MOST_STEPS" = some u ∧ RelV (.int 20) u
  n_len : mg "len" = none
  n_range : mg "range" = none
  n_int : mg "int" = none
  n_tuple : mg "tuple" = none
  n_isinstance : mg "isinstance" = none
  n_str : mg "str" = none
  n_bool : mg "bool" = none
  n_list : mg "list" = none
  n_all : mg "all" = none
  n_set : mg "set" = none
  n_max : mg "max" = none
  n_enumerate : mg "enumerate" = none
  n_ValueError : mg "ValueError" = none
end My
namespace My
open PySem L2
theorem len_CarryError_init {K : PySem.W.Frag} : ∀ vs H Q E, spBaseK K vs H Q E → vs.length = ["self", "words"].length := by
  rintro vs H Q E ⟨a, C, w, rfl, _⟩
  rfl
theorem body_CarryError_init {k : Nat} {P : Program} {w : World} {K : PySem.W.Frag} {mg : Str → Option Value} {base : Heap} {CS CP XCarryError XNoStep XNoKept XNoStops XNotSame XNotSafe XNoFlag XNoStrokes XNothingBegun XNoSchema XNoTable XNoColumn XMissing XNoKey XNoRow XTaken XNotClosed XRefused XNoText XT_MISSING_WORDS XT_COLUMN_STEPS : Addr} (T : Txt K mg CS CP XCarryError XNoStep XNoKept XNoStops XNotSame XNotSafe XNoFlag XNoStrokes XNothingBegun XNoSchema XNoTable XNoColumn XMissing XNoKey XNoRow XTaken XNotClosed XRefused XNoText XT_MISSING_WORDS XT_COLUMN_STEPS) : BodyOk P w K mg base k ["self", "words"] "CarryError.__init__" s_CarryError_init (spBaseK K) := by
  intro f cdv A outer s H vs Q E hr h
  · obtain ⟨a, C, w, rfl, hx, ha, q⟩ := h
    refine ⟨_, (pss_one (ps_expr (pe_veinit rfl T.n_ValueError T.ve (pa_cons (pv 0) (pa_cons (pv 1) pa_nil))))), ?_⟩
    exact ⟨_, rfl, _, rfl, a, C, [w], rfl, (by show 1 ≤ 1000; decide), hx, ha, q⟩
theorem ok_CarryError_init {P : Program} {w : World} {K : PySem.W.Frag} {mg : Str → Option Value} {base : Heap} {CS CP XCarryError XNoStep XNoKept XNoStops XNotSame XNotSafe XNoFlag XNoStrokes XNothingBegun XNoSchema XNoTable XNoColumn XMissing XNoKey XNoRow XTaken XNotClosed XRefused XNoText XT_MISSING_WORDS XT_COLUMN_STEPS : Addr} (T : Txt K mg CS CP XCarryError XNoStep XNoKept XNoStops XNotSame XNotSafe XNoFlag XNoStrokes XNothingBegun XNoSchema XNoTable XNoColumn XMissing XNoKey XNoRow XTaken XNotClosed XRefused XNoText XT_MISSING_WORDS XT_COLUMN_STEPS) : InitOk P w K mg base 1 XCarryError "CarryError" (spBaseK K) :=
  T.d_CarryError_init.init T.b_CarryError sc_CarryError_init len_CarryError_init (body_CarryError_init T)
end My
namespace My
open PySem L2
theorem ok_NoStep_init {P : Program} {w : World} {K : PySem.W.Frag} {mg : Str → Option Value} {base : Heap} {CS CP XCarryError XNoStep XNoKept XNoStops XNotSame XNotSafe XNoFlag XNoStrokes XNothingBegun XNoSchema XNoTable XNoColumn XMissing XNoKey XNoRow XTaken XNotClosed XRefused XNoText XT_MISSING_WORDS XT_COLUMN_STEPS : Addr} (T : Txt K mg CS CP XCarryError XNoStep XNoKept XNoStops XNotSame XNotSafe XNoFlag XNoStrokes XNothingBegun XNoSchema XNoTable XNoColumn XMissing XNoKey XNoRow XTaken XNotClosed XRefused XNoText XT_MISSING_WORDS XT_COLUMN_STEPS) : ErrOk P w K mg base 3 XNoStep "NoStep" ["index"] := by
  have c_CarryError_init__ := ok_CarryError_init (P := P) (w := w) (base := base) T
  refine T.d_NoStep_init.err T.e_NoStep sc_NoStep_init (fun vs H Q E h => ?_) (fun f cdv A outer s H vs Q E hr h => ?_)
  · obtain ⟨a, ys, rfl, hl, _⟩ := h
    simpa using hl
  · obtain ⟨a, ys, rfl, hl, ha, q⟩ := h
    obtain ⟨y0, rfl⟩ : ∃ y0, ys = [y0] := by
      match ys, hl with
      | [y0], _ => exact ⟨y0, rfl⟩
    refine ⟨_, (pss_cons (ps_expr (pe_cinit c_CarryError_init__ (hr.mono (by decide)) (pa_cons (pv 0) (pa_cons pe_str pa_nil))))
      (pss_one (ps_ost (pv 0) (pv 1)))), ?_⟩
    refine ⟨_, rfl, a, XNoStep, .str _, rfl, T.e_NoStep.ox, ha, ?_⟩
    refine ⟨_, rfl, _, rfl, a, XNoStep, rfl, T.e_NoStep.ox, T.e_NoStep.no _ (by simp), .inl ⟨ha, fun dx hdx ndx => ?_⟩⟩
    exact q dx hdx ndx
end My
namespace My
open PySem L2
def spAt (K : PySem.W.Frag) : Sp := fun vs H Q _ => ∃ (a : Addr) (ns : List Int) (k : Nat), vs = [.ref a, .int k] ∧ SqL K H a (ns.map V.int) ∧ ∀ z : Int, Q (.int z) H
theorem ok_law_cell_at {P : Program} {w : World} {K : PySem.W.Frag} {mg : Str → Option Value} {base : Heap} {CS CP XCarryError XNoStep XNoKept XNoStops XNotSame XNotSafe XNoFlag XNoStrokes XNothingBegun XNoSchema XNoTable XNoColumn XMissing XNoKey XNoRow XTaken XNotClosed XRefused XNoText XT_MISSING_WORDS XT_COLUMN_STEPS : Addr} (T : Txt K mg CS CP XCarryError XNoStep XNoKept XNoStops XNotSame XNotSafe XNoFlag XNoStrokes XNothingBegun XNoSchema XNoTable XNoColumn XMissing XNoKey XNoRow XTaken XNotClosed XRefused XNoText XT_MISSING_WORDS XT_COLUMN_STEPS) : CallOk P w K mg base 1 "_law_cell_at" (spAt K) := by
  refine T.d_law_cell_at.ok sc_law_cell_at (fun vs H Q E h => ?_) (fun f cdv A outer s H vs Q E hr h => ?_)
  · obtain ⟨a, ns, k, rfl, _⟩ := h
    rfl
  · obtain ⟨a, ns, k, rfl, hS, q⟩ := h
    refine ⟨_, (pss_cons (ps_if (pt_cmpR op_lt (pv 1) (pe_callB (kLen (K := K)) (by rfl) T.n_len PySem.boot_len (pa_cons (pv 0) pa_nil)) (nomark _)) (pss_one (ps_ret (pe_ix (kIxL (K := K)) (pv 0) (pv 1) (fun _ _ => rfl)))) pss_nil)
      (pss_one (ps_ret pe_int))), ?_⟩
    refine ⟨_, rfl, _, rfl, a, _, rfl, .inl hS, _, _, rfl, rfl, _, rfl, ?_⟩
    refine ite2 (fun c => ?_) (fun _ => ?_)
    · have hk : k < ns.length := by
        have := of_decide_eq_true c
        rw [List.length_map] at this
        omega
      refine ⟨_, rfl, _, rfl, a, _, _, V.int ns[k], rfl, rfl, hS, atI_nat ?_, q _⟩
      rw [List.getElem?_map, List.getElem?_eq_getElem hk] <;> rfl
    · exact q 0
end My
namespace My
open PySem L2
def spStore : Sp := fun vs H Q _ => ∃ z : Int, vs = [.int z] ∧ ∀ p H', H p = none → Same H H' → StAt H' p 1000000 → Q (.ref p) H'
theorem ok_law_store {P : Program} {w : World} {K : PySem.W.Frag} {mg : Str → Option Value} {base : Heap} {CS CP XCarryError XNoStep XNoKept XNoStops XNotSame XNotSafe XNoFlag XNoStrokes XNothingBegun XNoSchema XNoTable XNoColumn XMissing XNoKey XNoRow XTaken XNotClosed XRefused XNoText XT_MISSING_WORDS XT_COLUMN_STEPS : Addr} (T : Txt K mg CS CP XCarryError XNoStep XNoKept XNoStops XNotSame XNotSafe XNoFlag XNoStrokes XNothingBegun XNoSchema XNoTable XNoColumn XMissing XNoKey XNoRow XTaken XNotClosed XRefused XNoText XT_MISSING_WORDS XT_COLUMN_STEPS) : CallOk P w K mg base 1 "_law_store" spStore := by
  refine T.d_law_store.ok sc_law_store (fun vs H Q E h => ?_) (fun f cdv A outer s H vs Q E hr h => ?_)
  · obtain ⟨z, rfl, _⟩ := h
    rfl
  · obtain ⟨z, rfl, q⟩ := h
    refine ⟨_, (pss_one (ps_ret (pe_lst (pa_cons (pe_callB (call_max2 rfl) (by rfl) T.n_max (by decide +kernel) (pa_cons pe_int (pa_cons (pe_op op_sub (pv 0) (pe_op op_pow pe_int pe_int)) pa_nil))) (pa_cons (pe_op op_mod (pe_callTy call_int1 (by rfl) T.n_int (by decide +kernel) (pa_cons (pv 0) pa_nil)) pe_int) (pa_cons pe_int pa_nil)))))), ?_⟩
    refine ⟨_, rfl, _, _, rfl, rfl, ⟨by decide, by decide, by decide⟩, _, _, rfl, rfl, _, _, rfl, _, rfl, .inl ⟨_, rfl, _, _, rfl, rfl, (by show (0 : Int) < 2147483629; decide), sizeL (by show 3 ≤ 100000; decide), fun p hp => ?_⟩⟩
    exact q p _ hp (Same.upd (Same.refl H) hp) ⟨_, _, _, upd_same, by omega, by omega⟩
end My
namespace My
open PySem L2
def spDraw : Sp := fun vs H Q _ => ∃ (a : Addr) (b : Int) (n : Nat), vs = [.ref a, .int b] ∧ 0 < b ∧ b < 2 ^ 200 ∧ StAt H a (n + 1) ∧ ∀ (d : Int) H', 0 ≤ d → d < b → StAt H' a n → Fr1 a H H' → Q (.int d) H'
theorem ok_law_draw {P : Program} {w : World} {K : PySem.W.Frag} {mg : Str → Option Value} {base : Heap} {CS CP XCarryError XNoStep XNoKept XNoStops XNotSame XNotSafe XNoFlag XNoStrokes XNothingBegun XNoSchema XNoTable XNoColumn XMissing XNoKey XNoRow XTaken XNotClosed XRefused XNoText XT_MISSING_WORDS XT_COLUMN_STEPS : Addr} (T : Txt K mg CS CP XCarryError XNoStep XNoKept XNoStops XNotSame XNotSafe XNoFlag XNoStrokes XNothingBegun XNoSchema XNoTable XNoColumn XMissing XNoKey XNoRow XTaken XNotClosed XRefused XNoText XT_MISSING_WORDS XT_COLUMN_STEPS) : CallOk P w K mg base 1 "_law_draw" spDraw := by
  refine T.d_law_draw.ok sc_law_draw (fun vs H Q E h => ?_) (fun f cdv A outer s H vs Q E hr h => ?_)
  · obtain ⟨a, b, n, rfl, _⟩ := h
    rfl
  · obtain ⟨a, b, n, rfl, hb0, hb1, ⟨x, y, k, hs, k0, k1⟩, q⟩ := h
    have hS : SqL K H a [.int x, .int y, .int k] := SqL.of hs
    have hbn : b.natAbs < 2 ^ 200 := by omega
    have hbd : CDivW x b := wide_div hb0 hbn (by decide) (by decide)
    refine ⟨_, (pss_cons (ps_if (pt_cmpR op_gt (pe_ix (kIxL (K := K)) (pv 0) pe_int (fun _ _ => rfl)) pe_int (nomark _)) (pss_cons (ps_set (i := 3) sc_law_draw.nd rfl (by first | exact Or.inl rfl | exact Or.inr rfl) (pe_op op_mod (pe_callTy call_int1 (by rfl) T.n_int (by decide +kernel) (pa_cons (pe_ix (kIxL (K := K)) (pv 0) pe_int (fun _ _ => rfl)) pa_nil)) (pv 1)))
        (pss_cons (ps_asg (pe_op op_fdivW (pe_ix (kIxL (K := K)) (pv 0) pe_int (fun _ _ => rfl)) (pv 1)) (pg_sub (pv 0) pe_int set_list))
        (pss_one (ps_ret (pv 3))))) pss_nil)
      (pss_cons (ps_asg (pe_op op_add (pe_ix (kIxL (K := K)) (pv 0) pe_int (fun _ _ => rfl)) pe_int) (pg_sub (pv 0) pe_int set_list))
      (pss_cons (ps_set (i := 2) sc_law_draw.nd rfl (by first | exact Or.inl rfl | exact Or.inr rfl) (pe_op op_mod (pe_callTy call_int1 (by rfl) T.n_int (by decide +kernel) (pa_cons (pe_op op_add (pe_ix (kIxL (K := K)) (pv 0) pe_int (fun _ _ => rfl)) (pe_op op_mul (pe_op op_mul pe_int (pe_ix (kIxL (K := K)) (pv 0) pe_int (fun _ _ => rfl))) (pe_ix (kIxL (K := K)) (pv 0) pe_int (fun _ _ => rfl)))) pa_nil)) pe_int))
      (pss_cons (ps_set (i := 2) sc_law_draw.nd rfl (by first | exact Or.inl rfl | exact Or.inr rfl) (pe_op op_mod (pe_callTy call_int1 (by rfl) T.n_int (by decide +kernel) (pa_cons (pe_op op_mul (pv 2) (pv 2)) pa_nil)) pe_int))
      (pss_cons (ps_set (i := 2) sc_law_draw.nd rfl (by first | exact Or.inl rfl | exact Or.inr rfl) (pe_op op_mod (pe_callTy call_int1 (by rfl) T.n_int (by decide +kernel) (pa_cons (pe_op op_add (pe_op op_add (pv 2) (pe_ix (kIxL (K := K)) (pv 0) pe_int (fun _ _ => rfl))) (pe_op op_mul pe_int (pe_ix (kIxL (K := K)) (pv 0) pe_int (fun _ _ => rfl)))) pa_nil)) pe_int))
      (pss_one (ps_ret (pe_op op_mod (pe_op op_fdiv (pe_op op_mod (pe_callTy call_int1 (by rfl) T.n_int (by decide +kernel) (pa_cons (pe_op op_mul (pv 2) (pv 2)) pa_nil)) pe_int) pe_int) (pv 1))))))))), ?_⟩
    refine ⟨_, rfl, a, _, _, _, rfl, rfl, hS, rfl, _, _, rfl, rfl, _, rfl, ?_⟩
    refine ite2 (fun c => ?_) (fun _ => ?_)
    · refine ⟨_, rfl, a, _, _, _, rfl, rfl, hS, rfl, .inl ⟨_, rfl, _, rfl, _, _, rfl, rfl, hb0, ?_⟩⟩
      refine ⟨_, rfl, a, _, _, _, rfl, rfl, hS, rfl, _, rfl, _, _, rfl, rfl, hbd, ?_⟩
      refine ⟨_, rfl, a, _, _, 0, rfl, rfl, hs, rfl, ?_⟩
      refine ⟨_, rfl, q _ _ (Int.emod_nonneg _ (by omega)) (Int.emod_lt_of_pos _ hb0) ⟨_, _, _, upd_same, k0, by omega⟩ ((Fr1.refl a H).at)⟩
    · refine ⟨_, rfl, a, _, _, _, rfl, rfl, hS, rfl, _, _, rfl, rfl, _, rfl, a, _, _, 2, rfl, rfl, hs, rfl, ?_⟩
      have hs2 : upd H a (.lst [.int x, .int y, .int (k + 1)]) a = some (.lst [.int x, .int y, .int (k + 1)]) := upd_same
      have hS2 : SqL K (upd H a (.lst [.int x, .int y, .int (k + 1)])) a [.int x, .int y, .int (k + 1)] := SqL.of hs2
      have kk : 69621 * (k + 1) ≤ 69621 * 1000000 := by omega
      refine ⟨_, rfl, a, _, _, _, rfl, rfl, hS2, rfl, _, rfl, a, _, _, _, rfl, rfl, hS2, rfl, _, _, rfl, rfl, .inl ⟨by omega, by omega⟩, _, rfl, a, _, _, _, rfl, rfl, hS2, rfl, _, _, rfl, rfl, .inl ⟨by omega, by omega⟩, _, _, rfl, rfl, .inl ⟨_, rfl, _, _, rfl, rfl, (by show (0 : Int) < 2147483587; decide), ?_⟩⟩
      generalize hn : (y + 69621 * (k + 1) * (k + 1)) % 2147483587 = u
      have u0 : 0 ≤ u := hn ▸ Int.emod_nonneg _ (by decide)
      have u1 : u < 2147483587 := hn ▸ Int.emod_lt_of_pos _ (by decide)
      refine ⟨_, rfl, _, rfl, _, _, rfl, rfl, .inl ⟨by omega, by omega⟩, .inl ⟨_, rfl, _, _, rfl, rfl, (by show (0 : Int) < 2147483563; decide), ?_⟩⟩
      generalize hn2 : (u * u) % 2147483563 = v
      have v0 : 0 ≤ v := hn2 ▸ Int.emod_nonneg _ (by decide)
      have v1 : v < 2147483563 := hn2 ▸ Int.emod_lt_of_pos _ (by decide)
      refine ⟨_, rfl, _, rfl, a, _, _, _, rfl, rfl, hS2, rfl, _, _, rfl, rfl, _, rfl, a, _, _, _, rfl, rfl, hS2, rfl, _, _, rfl, rfl, .inl ⟨by omega, by omega⟩, _, _, rfl, rfl, .inl ⟨_, rfl, _, _, rfl, rfl, (by show (0 : Int) < 2147483549; decide), ?_⟩⟩
      generalize hn3 : (v + y + 40014 * (k + 1)) % 2147483549 = t
      have t0 : 0 ≤ t := hn3 ▸ Int.emod_nonneg _ (by decide)
      have t1 : t < 2147483549 := hn3 ▸ Int.emod_lt_of_pos _ (by decide)
      refine ⟨_, rfl, _, rfl, _, _, rfl, rfl, .inl ⟨by omega, by omega⟩, .inl ⟨_, rfl, _, _, rfl, rfl, (by show (0 : Int) < 2147483647; decide), _, _, rfl, rfl, ⟨by decide, by decide⟩, _, rfl, _, _, rfl, rfl, hb0, ?_⟩⟩
      exact q _ _ (Int.emod_nonneg _ (by omega)) (Int.emod_lt_of_pos _ hb0) ⟨_, _, _, upd_same, by omega, by omega⟩ ((Fr1.refl a H).at)
end My
namespace My
open PySem L2
structure NmE (w : Str) : Prop where
  hi : (cd w).length ≤ 8
  az : ∀ c ∈ cd w, 97 ≤ c ∧ c ≤ 122
theorem Nm.e {w : Str} (h : Nm w) : NmE w := ⟨h.l8, h.az⟩
theorem NmE.nm {w : Str} (h : NmE w) (n : w ≠ "") : Nm w := Nm.of rfl (by
  rcases Nat.eq_zero_or_pos (cd w).length with z | z
  · exact absurd (cd_ext (v := w) (w := "") (by rw [List.eq_nil_of_length_eq_zero z]; decide +kernel)) n
  · exact z) h.hi h.az
def textWords : List Str := ["load", "raw", "blank", "refuse", "match", "patch", "fill", "sweep", "kept", "lost", "any", "unique", "empty"]
theorem textWords_nm : ∀ w ∈ textWords, NmE w := by
  have go : ∀ w : Str, decide ((cd w).length ≤ 8) = true → ((cd w).all fun c => decide (97 ≤ c) && decide (c ≤ 122)) = true → NmE w := fun w h1 h2 => ⟨of_decide_eq_true h1, fun c hc => by
    have := List.all_eq_true.mp h2 c hc
    simp only [Bool.and_eq_true, decide_eq_true_eq] at this
    exact this⟩
  intro w hw
  simp only [textWords, List.mem_cons, List.not_mem_nil, or_false] at hw
  rcases hw with rfl | rfl | rfl | rfl | rfl | rfl | rfl | rfl | rfl | rfl | rfl | rfl | rfl <;> exact go _ (by decide +kernel) (by decide +kernel)
theorem cut_top (z : Str) (i : Nat) : cd (cutS z none (some (i : Int))) = (cd z).take i := by
  rcases Nat.le_total i z.length with h | h
  · exact cut_to z i h
  · show ((z.cps.toList.drop (HT.sIx z.length 0 none)).take (HT.sIx z.length z.length (some (i : Int)) - HT.sIx z.length 0 none)).toArray.toList = _
    rw [HT.sIx_none, HT.sIx_nat, List.toList_toArray, List.drop_zero, Nat.min_eq_right h, Nat.sub_zero]
    have hl : z.length = (cd z).length := cd_len z
    rw [hl] at h ⊢
    rw [List.take_length, List.take_of_length_le h]
def spLName : Sp := fun vs H Q _ => ∃ (a tp : Addr) (ws : List Str) (n : Nat), vs = [.ref a, .ref tp] ∧ H tp = some (.lst (ws.map V.str)) ∧ (∀ w ∈ ws, Nm w) ∧ ws.length ≤ 20 ∧ StAt H a (n + 10) ∧
  ∀ (w : Str) H', Nm w → w ∉ ws → StAt H' a n → Fr1 a H H' → Q (.str w) H'
theorem ok_law_name {P : Program} {w : World} {K : PySem.W.Frag} {mg : Str → Option Value} {base : Heap} {CS CP XCarryError XNoStep XNoKept XNoStops XNotSame XNotSafe XNoFlag XNoStrokes XNothingBegun XNoSchema XNoTable XNoColumn XMissing XNoKey XNoRow XTaken XNotClosed XRefused XNoText XT_MISSING_WORDS XT_COLUMN_STEPS : Addr} (T : Txt K mg CS CP XCarryError XNoStep XNoKept XNoStops XNotSame XNotSafe XNoFlag XNoStrokes XNothingBegun XNoSchema XNoTable XNoColumn XMissing XNoKey XNoRow XTaken XNotClosed XRefused XNoText XT_MISSING_WORDS XT_COLUMN_STEPS) : CallOk P w K mg base 2 "_law_name" spLName := by
  have c_law_draw := ok_law_draw (P := P) (w := w) (base := base) T
  refine T.d_law_name.ok sc_law_name (fun vs H Q E h => ?_) (fun f cdv A outer s H vs Q E hr h => ?_)
  · obtain ⟨a, tp, ws, n, rfl, _⟩ := h
    rfl
  · obtain ⟨a, tp, ws, n, rfl, htp, hnm, hwl, hS, q⟩ := h
    have nta : tp ≠ a := fun z => by
      obtain ⟨x, y, k, hs, _⟩ := hS
      rw [z, hs] at htp
      have h1 := HO.lst.inj (Option.some.inj htp)
      match ws, h1 with
      | [], h1 => cases h1
      | w :: _, h1 => cases h1
    refine ⟨_, (pss_cons (ps_set (i := 2) sc_law_name.nd rfl (by first | exact Or.inl rfl | exact Or.inr rfl) pe_str)
      (pss_cons (ps_set (i := 3) sc_law_name.nd rfl (by first | exact Or.inl rfl | exact Or.inr rfl) (pe_callC c_law_draw (hr.mono (by decide)) (pa_cons (pv 0) (pa_cons pe_int pa_nil))))
      (pss_cons (ps_set (i := 4) sc_law_name.nd rfl (by first | exact Or.inl rfl | exact Or.inr rfl) pe_str)
      (Evl.pss_cut (ps_if (PW.pt (pw_or (pt_cmpR op_lt (pv 3) pe_int (nomark _)) (pw_or1 (pt_cmpR (kEqD (K := K) hr.units) (pv 1) (pe_lst pa_nil) (nomark _))))) (pss_one (ps_set (i := 4) sc_law_name.nd rfl (by first | exact Or.inl rfl | exact Or.inr rfl) (pe_join pe_str (pe_lc (own := [("k", 9)]) rfl sc_law_name.nd (pi_range1 (by rfl) T.n_range (pa_cons (pe_op op_add pe_int (pe_callC c_law_draw (hr.mono (by decide)) (pa_cons (pv 0) (pa_cons pe_int pa_nil)))) pa_nil)) (blkOk_by (N := ["store", "taken", "letters", "style", "name", "at", "letter", "middle", "words", "k"]) (sc := defScope s_law_name) (own := [("k", 9)]) (by decide +kernel)) (fun _ _ _ _ _ => (pg_name (i := 9) sc_law_name.nd rfl (by first | exact Or.inl rfl | exact Or.inr rfl))) (fun _ _ _ _ _ => pts_nil) (fun _ _ _ _ _ => (pe_ix ix_str (pv 2) (pe_callC c_law_draw (hr.mono (by decide)) (pa_cons (pv 0) (pa_cons pe_int pa_nil))) (fun _ _ => rfl))))))) (pss_one (ps_if (pt_cmpR op_lt (pv 3) pe_int (nomark _)) (pss_cons (ps_set (i := 5) sc_law_name.nd rfl (by first | exact Or.inl rfl | exact Or.inr rfl) (pe_callC c_law_draw (hr.mono (by decide)) (pa_cons (pv 0) (pa_cons (pe_callB call_len_str (by rfl) T.n_len PySem.boot_len (pa_cons (pe_ix (kIxL (K := K)) (pv 1) (pe_un un_neg pe_int) (fun _ _ => rfl)) pa_nil)) pa_nil))))
        (pss_cons (ps_set (i := 6) sc_law_name.nd rfl (by first | exact Or.inl rfl | exact Or.inr rfl) (pe_ix ix_str (pv 2) (pe_callC c_law_draw (hr.mono (by decide)) (pa_cons (pv 0) (pa_cons pe_int pa_nil))) (fun _ _ => rfl)))
        (pss_cons (ps_set (i := 7) sc_law_name.nd rfl (by first | exact Or.inl rfl | exact Or.inr rfl) (pe_ix (kIxL (K := K)) (pe_lst (pa_cons (pv 6) (pa_cons (pe_op op_add_str (pv 6) (pe_ix ix_str (pe_ix (kIxL (K := K)) (pv 1) (pe_un un_neg pe_int) (fun _ _ => rfl)) (pv 5) (fun _ _ => rfl))) (pa_cons pe_str pa_nil)))) (pe_op op_sub (pv 3) pe_int) (fun _ _ => rfl)))
        (pss_one (ps_set (i := 4) sc_law_name.nd rfl (by first | exact Or.inl rfl | exact Or.inr rfl) (pe_slice sl_str (pe_op op_add_str (pe_op op_add_str (pe_slice sl_str (pe_ix (kIxL (K := K)) (pv 1) (pe_un un_neg pe_int) (fun _ _ => rfl)) po_none (po_some (pv 5))) (pv 7)) (pe_slice sl_str (pe_ix (kIxL (K := K)) (pv 1) (pe_un un_neg pe_int) (fun _ _ => rfl)) (po_some (pe_op op_add (pv 5) pe_int)) po_none)) po_none (po_some pe_int))))))) (pss_cons (ps_set (i := 8) sc_law_name.nd rfl (by first | exact Or.inl rfl | exact Or.inr rfl) (pe_lst (pa_cons pe_str (pa_cons pe_str (pa_cons pe_str (pa_cons pe_str (pa_cons pe_str (pa_cons pe_str (pa_cons pe_str (pa_cons pe_str (pa_cons pe_str (pa_cons pe_str (pa_cons pe_str (pa_cons pe_str pa_nil))))))))))))))
        (pss_one (ps_set (i := 4) sc_law_name.nd rfl (by first | exact Or.inl rfl | exact Or.inr rfl) (pe_ix (kIxL (K := K)) (pe_op op_cat (pv 8) (pe_lst (pa_cons pe_str pa_nil))) (pe_callC c_law_draw (hr.mono (by decide)) (pa_cons (pv 0) (pa_cons pe_int pa_nil))) (fun _ _ => rfl))))))))
      (Evl.pss_cut (ps_if (PW.pt (pw_or (pt_cmpR op_eq (pv 4) pe_str (nomark _)) (pw_or1 (pt_cmpR (kIn (K := K)) (pv 4) (pv 1) rfl)))) (pss_one (ps_set (i := 4) sc_law_name.nd rfl (by first | exact Or.inl rfl | exact Or.inr rfl) (pe_ix (kIxL (K := K)) (pe_lc (own := [("letter", 6)]) rfl sc_law_name.nd (kPiL (K := K) (pe_callTy (call_listS rfl) (by rfl) T.n_list (by decide +kernel) (pa_cons (pv 2) pa_nil))) (blkOk_by (N := ["store", "taken", "letters", "style", "name", "at", "letter", "middle", "words", "k"]) (sc := defScope s_law_name) (own := [("letter", 6)]) (by decide +kernel)) (fun _ _ _ _ _ => (pg_name (i := 6) sc_law_name.nd rfl (by first | exact Or.inl rfl | exact Or.inr rfl))) (fun _ _ _ _ _ => (pts_one (pt_cmpR (kNotIn (K := K)) (pv 6) (pv 1) rfl))) (fun _ _ _ _ _ => (pv 6))) pe_int (fun _ _ => rfl)))) pss_nil)
      (pss_one (ps_ret (pv 4)))))))), ?_⟩
    refine ⟨_, rfl, a, 6, n + 9, rfl, by decide, by decide, hS, fun style G s0 s1 hSG eG => ?_⟩
    have hG := eG _ _ nta htp
    refine ⟨fun σ' H' => ∃ (v : Str) (o5 o6 o7 o8 o9 : Option V), σ' = [some (.ref a), some (.ref tp), some (.str abc), some (.int style), some (.str v), o5, o6, o7, o8, o9] ∧ NmE v ∧ H' tp = some (.lst (ws.map V.str)) ∧ StAt H' a n ∧ Fr1 a H H', ?_, ?_⟩
    · refine ⟨_, rfl, _, _, rfl, rfl, _, rfl, ite2 (fun c0 => iteT ?gA) (fun c0 => ⟨_, rfl, Nat.zero_le _, fun l hl2 => ?gB⟩)⟩
      case' gA => obtain ⟨Gx, hGx, hx, hSx, ex⟩ : ∃ Gx, G = Gx ∧ Gx tp = some (.lst (ws.map V.str)) ∧ StAt Gx a (n + 9) ∧ Fr1 a H Gx := ⟨_, rfl, hG, hSG, eG⟩
      case' gA => subst hGx
      case' gB =>
        have nl : tp ≠ l := ne_of_none hG hl2
        have hx : upd G l (.lst []) tp = some (.lst (ws.map V.str)) := by rw [upd_ne nl]; exact hG
        have hSx : StAt (upd G l (.lst [])) a (n + 9) := hSG.upd (hSG.ne hl2)
        have ex : Fr1 a H (upd G l (.lst [])) := eG.upd (eG.free (hSG.ne hl2).symm hl2)
        refine ⟨.list (ws.map PyData.str), .list [], Dp.lst (SqL.of hx) (TdAll.dp (TdAll.strs ws)), Dp.lst (SqL.of upd_same) .nil, (Fine.lst (fine_strs hnm)).sh (by decide), (Fine.lst (n := 1) (by simp)).sh (by decide), ws.isEmpty, ?_, ?_⟩
      case' gB =>
        · rw [eqv_lists_nil]
          simp
      case' gB => generalize upd G l (.lst []) = Gx at *
      case' gB => refine ite2 (fun hb => ?gC) (fun hb => ?gD)
      case gD =>
        have hw : ws ≠ [] := by simpa using hb
        have s2 : 2 ≤ style := by
          have := c0
          simp only [decide_eq_true_eq] at this
          omega
        obtain ⟨ini, near, rfl⟩ : ∃ ini near, ws = ini ++ [near] := ⟨ws.dropLast, ws.getLast hw, (List.dropLast_concat_getLast hw).symm⟩
        have nn : Nm near := hnm near (by simp)
        have hlast : atI ((ini ++ [near]).map V.str) (-1) = some (.str near) := by rw [List.map_append]; exact atI_last _ _
        have hz : near.length ≤ sizeLine := sizeL (by have := nn.hi; omega)
        refine ⟨_, rfl, _, _, rfl, rfl, _, rfl, ite2 (fun c5 => ?_) (fun c5 => ?_)⟩
        · -- at = _law_draw(store, len(taken[-1]))
          refine ⟨_, rfl, _, rfl, _, rfl, tp, _, _, .str near, rfl, rfl, SqL.of hx, hlast, near, rfl, hz, a, _, n + 8, rfl, (by have := nn.lo; omega), (by have := nn.hi; omega), hSx.mono (by omega), fun at_ H4 a0 a1 hS4 e4 => ?_⟩
          obtain ⟨k, rfl⟩ : ∃ k : Nat, at_ = (k : Int) := ⟨at_.toNat, by omega⟩
          have hk : k < (cd near).length := by
            rw [← cd_len]
            omega
          have ex4 := ex.trans e4
          have hx4 := e4 _ _ nta hx
          refine ⟨_, rfl, _, rfl, a, 26, n + 7, rfl, by decide, by decide, hS4.mono (by omega), fun z H5 z0 z1 hS5 e5 => ?_⟩
          obtain ⟨j, rfl⟩ : ∃ j : Nat, z = (j : Int) := ⟨z.toNat, by omega⟩
          have hj : j < 26 := by omega
          have ex5 := ex4.trans e5
          have hx5 := e5 _ _ nta hx4
          refine ⟨abc, _, 97 + j, rfl, rfl, sizeL (by rw [abc_len]; decide), atI_nat (abc_at j hj), ?_⟩
          have s5 : style < 5 := of_decide_eq_true c5
          refine ⟨_, rfl, _, rfl, _, rfl, _, rfl, tp, _, _, .str near, rfl, rfl, SqL.of hx5, hlast, _, rfl, near, _, (cd near)[k], rfl, rfl, hz, atI_nat (List.getElem?_eq_getElem hk), _, _, rfl, rfl, sizeL (by show 1 + 1 ≤ 100000; decide), sizeL (by show 3 ≤ 100000; decide), fun M hM => ?_⟩
          have hx6 : upd H5 M (.lst [.str ⟨#[97 + j]⟩, .str (⟨#[97 + j]⟩ ++ ⟨#[(cd near)[k]]⟩), .str ""]) tp = some (.lst ((ini ++ [near]).map V.str)) := by rw [upd_ne (ne_of_none hx5 hM)]; exact hx5
          have hS6 : StAt (upd H5 M (.lst [.str ⟨#[97 + j]⟩, .str (⟨#[97 + j]⟩ ++ ⟨#[(cd near)[k]]⟩), .str ""])) a (n + 7) := hS5.upd (hS5.ne hM)
          have ex6 : Fr1 a H (upd H5 M (.lst [.str ⟨#[97 + j]⟩, .str (⟨#[97 + j]⟩ ++ ⟨#[(cd near)[k]]⟩), .str ""])) := ex5.upd (ex5.free (hS5.ne hM).symm hM)
          obtain ⟨mid, hmid, hml, haz⟩ : ∃ mid : Str, atI [V.str ⟨#[97 + j]⟩, .str (⟨#[97 + j]⟩ ++ ⟨#[(cd near)[k]]⟩), .str ""] (style - 2) = some (.str mid) ∧ (cd mid).length ≤ 2 ∧ ∀ c ∈ cd mid, 97 ≤ c ∧ c ≤ 122 := by
            have h3 : style = 2 ∨ style = 3 ∨ style = 4 := by omega
            rcases h3 with rfl | rfl | rfl
            · exact ⟨_, atI_nat (j := 0) rfl, by show 1 ≤ 2; decide, fun c hc => by rw [List.mem_singleton.mp hc]; omega⟩
            · refine ⟨_, atI_nat (j := 1) rfl, by rw [cd_app]; show 2 ≤ 2; decide, fun c hc => ?_⟩
              rw [cd_app] at hc
              rcases List.mem_append.mp hc with h | h
              · rw [List.mem_singleton.mp h]; omega
              · rw [List.mem_singleton.mp h]; exact nn.az _ (List.getElem_mem hk)
            · exact ⟨_, atI_nat (j := 2) rfl, by decide +kernel, fun c hc => absurd hc (by rw [show cd ("" : Str) = [] from by decide +kernel]; simp)⟩
          refine ⟨_, rfl, _, _, rfl, rfl, M, _, _, .str mid, rfl, rfl, SqL.of upd_same, hmid, ?_⟩
          have l1 : cd (cutS near none (some (k : Int))) = (cd near).take k := cut_top near k
          have l2 : cd (cutS near (some ((k : Int) + 1)) none) = (cd near).drop (k + 1) := cut_from near (k + 1)
          have z1' : (cutS near none (some (k : Int))).length ≤ 8 := by
            rw [cd_len, l1, List.length_take]
            have := nn.l8
            omega
          have z2' : (cutS near (some ((k : Int) + 1)) none).length ≤ 8 := by
            rw [cd_len, l2, List.length_drop]
            have := nn.l8
            omega
          have zm : mid.length ≤ 2 := by rw [cd_len]; exact hml
          have zz1 : (cutS near none (some (k : Int)) ++ mid).length ≤ 10 := by
            rw [cd_len, cd_app, List.length_append, ← cd_len, ← cd_len]
            omega
          have zz2 : (cutS near none (some (k : Int)) ++ mid ++ cutS near (some ((k : Int) + 1)) none).length ≤ 18 := by
            rw [cd_len, cd_app, List.length_append, ← cd_len, ← cd_len]
            omega
          refine ⟨_, rfl, _, rfl, tp, _, _, .str near, rfl, rfl, SqL.of hx6, hlast, _, rfl, _, rfl, _, rfl, hz, _, rfl, _, _, rfl, rfl, sizeL (by omega), _, rfl, _, rfl, tp, _, _, .str near, rfl, rfl, SqL.of hx6, hlast, _, rfl, _, _, rfl, rfl, _, rfl, _, rfl, hz, _, _, rfl, rfl, sizeL (by omega), _, rfl, _, rfl, sizeL (by omega), ?_⟩
          refine ⟨_, _, _, _, _, _, rfl, ⟨?_, ?_⟩, hx6, hS6.mono (by omega), ex6⟩
          · rw [show (8 : Int) = ((8 : Nat) : Int) from rfl, cut_top, List.length_take]
            omega
          · intro c hc
            rw [show (8 : Int) = ((8 : Nat) : Int) from rfl, cut_top, cd_app, cd_app, l1, l2] at hc
            have hc := List.mem_of_mem_take hc
            rcases List.mem_append.mp hc with h | h
            · rcases List.mem_append.mp h with h | h
              · exact nn.az _ (List.mem_of_mem_take h)
              · exact haz _ h
            · exact nn.az _ (List.mem_of_mem_drop h)
        · -- words
          refine ⟨sizeL (by show 12 ≤ 100000; decide), fun M hM => ?_⟩
          have hM1 : upd Gx M (.lst ((textWords.take 12).map V.str)) M = some (.lst ((textWords.take 12).map V.str)) := upd_same
          have hx6 : upd Gx M (.lst ((textWords.take 12).map V.str)) tp = some (.lst ((ini ++ [near]).map V.str)) := by rw [upd_ne (ne_of_none hx hM)]; exact hx
          have hS6 := hSx.upd (o := .lst ((textWords.take 12).map V.str)) (hSx.ne hM)
          have ex6 : Fr1 a H (upd Gx M (.lst ((textWords.take 12).map V.str))) := ex.upd (ex.free (hSx.ne hM).symm hM)
          refine ⟨_, rfl, sizeL (by show 1 ≤ 100000; decide), fun M2 hM2 => ?_⟩
          have hM2 : upd Gx M (.lst ((textWords.take 12).map V.str)) M2 = none := hM2
          have hx7 : upd (upd Gx M (.lst ((textWords.take 12).map V.str))) M2 (.lst [.str "empty"]) tp = some (.lst ((ini ++ [near]).map V.str)) := by rw [upd_ne (ne_of_none hx6 hM2)]; exact hx6
          have hS7 := hS6.upd (o := .lst [.str "empty"]) (hS6.ne hM2)
          have ex7 : Fr1 a H (upd (upd Gx M (.lst ((textWords.take 12).map V.str))) M2 (.lst [.str "empty"])) := ex6.upd (ex6.free (hS6.ne hM2).symm hM2)
          have hM17 : upd (upd Gx M (.lst ((textWords.take 12).map V.str))) M2 (.lst [.str "empty"]) M = some (.lst ((textWords.take 12).map V.str)) := by rw [upd_ne (ne_of_none hM1 hM2)]; exact hM1
          refine ⟨M, M2, _, _, rfl, rfl, hM17, upd_same, sizeL (by show 13 ≤ 100000; decide), fun M3 hM3 => ?_⟩
          have hM3 : upd (upd Gx M (.lst ((textWords.take 12).map V.str))) M2 (.lst [.str "empty"]) M3 = none := hM3
          have hx8 : upd (upd (upd Gx M (.lst ((textWords.take 12).map V.str))) M2 (.lst [.str "empty"])) M3 (.lst (textWords.map V.str)) tp = some (.lst ((ini ++ [near]).map V.str)) := by rw [upd_ne (ne_of_none hx7 hM3)]; exact hx7
          have hS8 := hS7.upd (o := .lst (textWords.map V.str)) (hS7.ne hM3)
          have ex8 : Fr1 a H (upd (upd (upd Gx M (.lst ((textWords.take 12).map V.str))) M2 (.lst [.str "empty"])) M3 (.lst (textWords.map V.str))) := ex7.upd (ex7.free (hS7.ne hM3).symm hM3)
          have hM38 : upd (upd (upd Gx M (.lst ((textWords.take 12).map V.str))) M2 (.lst [.str "empty"])) M3 (.lst (textWords.map V.str)) M3 = some (.lst (textWords.map V.str)) := upd_same
          refine ⟨_, rfl, a, 13, n, rfl, by decide, by decide, hS8.mono (by omega), fun z H5 z0 z1 hS5 e5 => ?_⟩
          obtain ⟨j, rfl⟩ : ∃ j : Nat, z = (j : Int) := ⟨z.toNat, by omega⟩
          have hj : j < textWords.length := by show j < 13; omega
          have nM3 : M3 ≠ a := (hS7.ne hM3).symm
          refine ⟨M3, _, _, .str textWords[j], rfl, rfl, SqL.of (e5 _ _ nM3 hM38), atI_nat (by rw [List.getElem?_map, List.getElem?_eq_getElem hj]; rfl), ?_⟩
          exact ⟨_, _, _, _, _, _, rfl, textWords_nm _ (List.getElem_mem hj), e5 _ _ nta hx8, hS5, ex8.trans e5⟩
      all_goals
        refine ⟨⟨_, rfl⟩, _, rfl, a, 8, n + 8, rfl, by decide, by decide, hSx, fun d H1 d0 d1 hS1 e1 => ⟨_, _, rfl, rfl, _, rfl, by omega, by omega, fun D hD => ?_⟩⟩
        have hx1 := e1 _ _ nta hx
        have ex1 := ex.trans e1
        have hDa : D ≠ a := (hS1.ne hD).symm
        have hDt : tp ≠ D := ne_of_none hx1 hD
        refine lc_range (lo := 0) (n := (1 + d).toNat) (fun i Hi => ∃ cs : List Nat, cs.length = i ∧ (∀ c ∈ cs, 97 ≤ c ∧ c ≤ 122) ∧ Hi D = some (.lst (cs.map fun c => V.str ⟨#[c]⟩)) ∧ StAt Hi a (n + (8 - i)) ∧ Hi tp = some (.lst (ws.map V.str)) ∧ Fr1 a H Hi) ?_ ?_ ?_
        · exact ⟨[], rfl, by simp, upd_same, hS1.upd (hDa.symm), by rw [upd_ne hDt]; exact hx1, ex1.upd (ex1.free hDa hD)⟩
        · rintro i Hi hi ⟨cs, hc, az, hl, hs, ht, e2⟩
          refine ⟨rfl, tYes_if ?_⟩
          refine ⟨_, rfl, _, rfl, a, 26, n + (8 - (i + 1)), rfl, by decide, by decide, hs.mono (by omega), fun z H2 z0 z1 hs2 e3 => ?_⟩
          obtain ⟨j, rfl⟩ : ∃ j : Nat, z = (j : Int) := ⟨z.toNat, by omega⟩
          have hj : j < 26 := by omega
          refine ⟨abc, _, 97 + j, rfl, rfl, sizeL (by rw [abc_len]; decide), atI_nat (abc_at j hj), _, e3 D _ hDa hl, sizeLt (by rw [List.length_map]; omega), cs ++ [97 + j], by simp [hc], ?_, ?_, hs2.upd hDa.symm, by rw [upd_ne hDt]; exact e3 _ _ nta ht, ?_⟩
          · intro c hm
            rcases List.mem_append.mp hm with m | m
            · exact az c m
            · rw [List.mem_singleton.mp m]
              omega
          · rw [upd_same, List.map_append]
            rfl
          · have hD0 : H D = none := ex1.free hDa hD
            exact fun c o nc hc => by
              rw [upd_ne (ne_of_none hc hD0)]
              exact e3 c o nc (e2 c o nc hc)
        · rintro Hi ⟨cs, hc, az, hl, hs, ht, e2⟩
          refine ⟨_, D, cs.map fun c => ⟨#[c]⟩, rfl, rfl, .inl (SqL.of ?_), ?_, ?_⟩
          · rw [hl, List.map_map]
            rfl
          · have e0 : ((cs.map fun c => (⟨#[c]⟩ : Str)).map (·.length)).sum = cs.length := by
              clear hc az hl
              induction cs with
              | nil => rfl
              | cons c r ih =>
                rw [List.map_cons, List.map_cons, List.sum_cons, ih, List.length_cons]
                show 1 + r.length = r.length + 1
                omega
            rw [e0, List.length_map]
            have : (Str.ofString "").length = 0 := by decide +kernel
            rw [this]
            omega
          · exact ⟨_, _, _, _, _, _, rfl, (Nm.of (cd_join cs) (by omega) (by omega) az).e, ht, hs.mono (by omega), e2⟩
    · rintro σ' H' ⟨v, o5, o6, o7, o8, o9, rfl, hv, hx, hSx, ex⟩
      refine ⟨fun σ' H' => ∃ (v : Str) (o5 o6 o7 o8 o9 : Option V), σ' = [some (.ref a), some (.ref tp), some (.str abc), some (.int style), some (.str v), o5, o6, o7, o8, o9] ∧ Nm v ∧ v ∉ ws ∧ StAt H' a n ∧ Fr1 a H H', ?_, ?_⟩
      · refine ⟨_, rfl, rfl, _, rfl, ite2 (fun c0 => iteT ?ga) (fun c0 => ⟨_, rfl, _, rfl, tp, _, rfl, .inl (SqL.of hx), rfl, flat_strs ws, decide (v ∈ ws), ?gm, ite2 (fun hin => ?gb) (fun hin => ?gc)⟩)⟩
        case gm =>
          show V.bl (inV _ _) = _
          rw [inV_strs]
        case gc =>
          have c0' : v ≠ "" := fun e => c0 (by rw [e]; exact decide_eq_true rfl)
          exact ⟨v, _, _, _, _, _, rfl, hv.nm c0', by simpa using hin, hSx, ex⟩
        all_goals
          refine ⟨_, rfl, abc, rfl, (by rw [abc_len]; decide), fun L hL => ?_⟩
          have hxL : upd H' L (.lst (abc.cps.toList.map fun c => V.str ⟨#[c]⟩)) tp = some (.lst (ws.map V.str)) := by rw [upd_ne (ne_of_none hx hL)]; exact hx
          have hSL : StAt (upd H' L (.lst (abc.cps.toList.map fun c => V.str ⟨#[c]⟩))) a n := hSx.upd (hSx.ne hL)
          have exL : Fr1 a H (upd H' L (.lst (abc.cps.toList.map fun c => V.str ⟨#[c]⟩))) := ex.upd (ex.free (hSx.ne hL).symm hL)
          have hLL : upd H' L (.lst (abc.cps.toList.map fun c => V.str ⟨#[c]⟩)) L = some (.lst (abc.cps.toList.map fun c => V.str ⟨#[c]⟩)) := upd_same
          generalize upd H' L (.lst (abc.cps.toList.map fun c => V.str ⟨#[c]⟩)) = G1 at *
          have lenA : (abc.cps.toList.map fun c => V.str ⟨#[c]⟩).length = 26 := by rw [List.length_map, abc_list]; rfl
          refine ⟨L, rfl, ⟨_, SqL.of hLL⟩, fun D hD => lc_list (K := K) (a := L) (xs := abc.cps.toList.map fun c => V.str ⟨#[c]⟩) (fun t Ht => ∃ acc : List V, Ht D = some (.lst acc) ∧ acc.length ≤ t ∧ (acc = [] → ∀ u, u < t → (⟨#[97 + u]⟩ : Str) ∈ ws) ∧ (∀ y ∈ acc, ∃ c, (97 ≤ c ∧ c ≤ 122) ∧ (⟨#[c]⟩ : Str) ∉ ws ∧ y = .str ⟨#[c]⟩) ∧ Ht L = some (.lst (abc.cps.toList.map fun c => V.str ⟨#[c]⟩)) ∧ Ht tp = some (.lst (ws.map V.str)) ∧ StAt Ht a n ∧ Fr1 a H Ht) ?_ ?_ ?_ ?_⟩
          · exact ⟨[], upd_same, Nat.zero_le _, fun _ u h => absurd h (Nat.not_lt_zero _), by simp, by rw [upd_ne (ne_of_none hLL hD)]; exact hLL, by rw [upd_ne (ne_of_none hxL hD)]; exact hxL, hSL.upd (hSL.ne hD), exL.upd (exL.free (hSL.ne hD).symm hD)⟩
          · rintro t Ht _ ⟨_, _, _, _, _, h, _⟩
            exact SqL.of h
          · rintro t x Ht hts ⟨acc, hacc, hal, hno, hyes, hLt, hxt, hSt, ext⟩
            have ht26 : t < 26 := by
              have h1 := (List.getElem?_eq_some_iff.mp hts).1
              rwa [lenA] at h1
            obtain rfl : x = .str ⟨#[97 + t]⟩ := by
              rw [List.getElem?_map, abc_at t ht26] at hts
              exact (Option.some.inj hts).symm
            have nDp : D ≠ tp := fun e => by
              rw [e, hxL] at hD
              cases hD
            have nDL : D ≠ L := fun e => by
              rw [e, hLL] at hD
              cases hD
            have nDa : D ≠ a := (hSL.ne hD).symm
            have hD0 : H D = none := exL.free nDa hD
            refine ⟨rfl, _, rfl, _, rfl, tp, _, rfl, .inl (SqL.of hxt), rfl, flat_strs ws, !decide ((⟨#[97 + t]⟩ : Str) ∈ ws), ?_, ?_⟩
            · show V.bl (!inV _ _) = _
              rw [inV_strs]
            by_cases hm : (⟨#[97 + t]⟩ : Str) ∈ ws
            · rw [decide_eq_true hm]
              refine iteF ⟨acc, hacc, by omega, fun e u hu => ?_, hyes, hLt, hxt, hSt, ext⟩
              rcases Nat.lt_succ_iff_lt_or_eq.mp hu with h | rfl
              · exact hno e u h
              · exact hm
            · rw [decide_eq_false hm]
              refine iteT ⟨_, rfl, acc, hacc, sizeLt (by omega), acc ++ [.str ⟨#[97 + t]⟩], upd_same, by simp; omega, fun e => by simp at e, fun y hy => ?_, by rw [upd_ne nDL.symm]; exact hLt, by rw [upd_ne nDp.symm]; exact hxt, hSt.upd nDa.symm, ?_⟩
              · rcases List.mem_append.mp hy with h | h
                · exact hyes y h
                · exact ⟨97 + t, by omega, hm, List.mem_singleton.mp h⟩
              · intro b o nb hb
                rw [upd_ne (ne_of_none hb hD0)]
                exact ext b o nb hb
          · rintro Ht ⟨acc, hacc, hal, hno, hyes, hLt, hxt, hSt, ext⟩
            cases acc with
            | nil =>
              exfalso
              obtain ⟨j, hj, hf⟩ := free_letter ws (by omega)
              exact hf (hno rfl j (by rw [lenA]; exact hj))
            | cons y r =>
              obtain ⟨s, az, hf, rfl⟩ := hyes y List.mem_cons_self
              refine ⟨D, _, _, _, rfl, rfl, SqL.of hacc, atI_nat (j := 0) rfl, ?_⟩
              exact ⟨_, _, _, _, _, _, rfl, Nm.sign az, hf, hSt, ext⟩
      · rintro σ' H' ⟨v, o5, o6, o7, o8, o9, rfl, hv, hn, hSx, ex⟩
        exact ⟨_, rfl, q v H' hv hn hSx ex⟩
end My
namespace My
open PySem L2
def spTables : Sp := fun vs H Q _ => ∃ (a : Addr) (n : Nat), vs = [.ref a] ∧ StAt H a (n + 300) ∧ ∀ (v : V) (pl : Plan) (H' : Hp), Td H' v (planD pl) → Good pl → StAt H' a n → Fr1 a H H' → Q v H'
theorem ok_law_tables {P : Program} {w : World} {K : PySem.W.Frag} {mg : Str → Option Value} {base : Heap} {CS CP XCarryError XNoStep XNoKept XNoStops XNotSame XNotSafe XNoFlag XNoStrokes XNothingBegun XNoSchema XNoTable XNoColumn XMissing XNoKey XNoRow XTaken XNotClosed XRefused XNoText XT_MISSING_WORDS XT_COLUMN_STEPS : Addr} (T : Txt K mg CS CP XCarryError XNoStep XNoKept XNoStops XNotSame XNotSafe XNoFlag XNoStrokes XNothingBegun XNoSchema XNoTable XNoColumn XMissing XNoKey XNoRow XTaken XNotClosed XRefused XNoText XT_MISSING_WORDS XT_COLUMN_STEPS) : CallOk P w K mg base 3 "_law_tables" spTables := by
  have c_law_draw := ok_law_draw (P := P) (w := w) (base := base) T
  have c_law_name := ok_law_name (P := P) (w := w) (base := base) T
  refine T.d_law_tables.ok sc_law_tables (fun vs H Q E h => ?_) (fun f cdv A outer s H vs Q E hr h => ?_)
  · obtain ⟨a, n, rfl, _⟩ := h
    rfl
  · obtain ⟨a, n, rfl, hS, q⟩ := h
    refine ⟨_, (pss_cons (ps_set (i := 1) sc_law_tables.nd rfl (by first | exact Or.inl rfl | exact Or.inr rfl) (pe_lst pa_nil))
      (pss_cons (ps_for PassesOwn.never rfl (pi_range1 (by rfl) T.n_range (pa_cons (pe_op op_add pe_int (pe_callC c_law_draw (hr.mono (by decide)) (pa_cons (pv 0) (pa_cons pe_int pa_nil)))) pa_nil)) (pg_name (i := 2) sc_law_tables.nd rfl (by first | exact Or.inl rfl | exact Or.inr rfl))
      (pss_one (ps_expr (pe_bm PySem.F.plainAttrs_list PySem.F.slot_list_append PySem.F.type_list_append mt_append (pv 1) (pa_cons (pe_callC c_law_name (hr.mono (by decide)) (pa_cons (pv 0) (pa_cons (pv 1) pa_nil))) pa_nil)))))
      (pss_cons (ps_set (i := 3) sc_law_tables.nd rfl (by first | exact Or.inl rfl | exact Or.inr rfl) (pe_lst pa_nil))
      (pss_cons (ps_for PassesOwn.never rfl (kPiL (K := K) (pv 1)) (pg_name (i := 4) sc_law_tables.nd rfl (by first | exact Or.inl rfl | exact Or.inr rfl))
      (pss_cons (ps_set (i := 5) sc_law_tables.nd rfl (by first | exact Or.inl rfl | exact Or.inr rfl) (pe_lst pa_nil))
          (pss_cons (ps_set (i := 6) sc_law_tables.nd rfl (by first | exact Or.inl rfl | exact Or.inr rfl) (pe_lst pa_nil))
          (pss_cons (ps_for PassesOwn.never rfl (pi_range1 (by rfl) T.n_range (pa_cons (pe_callC c_law_draw (hr.mono (by decide)) (pa_cons (pv 0) (pa_cons pe_int pa_nil))) pa_nil)) (pg_name (i := 2) sc_law_tables.nd rfl (by first | exact Or.inl rfl | exact Or.inr rfl))
      (pss_cons (ps_set (i := 7) sc_law_tables.nd rfl (by first | exact Or.inl rfl | exact Or.inr rfl) (pe_ix (kIxL (K := K)) (pv 1) (pe_callC c_law_draw (hr.mono (by decide)) (pa_cons (pv 0) (pa_cons (pe_callB (kLen (K := K)) (by rfl) T.n_len PySem.boot_len (pa_cons (pv 1) pa_nil)) pa_nil))) (fun _ _ => rfl)))
          (Evl.pss_cut (ps_if (PW.pt (pw_or (pt_cmpR (kIn (K := K)) (pv 7) (pv 5) rfl) (pw_or1 (pt_cmpR op_gt (pe_callC c_law_draw (hr.mono (by decide)) (pa_cons (pv 0) (pa_cons pe_int pa_nil))) pe_int (nomark _))))) (pss_one (ps_set (i := 7) sc_law_tables.nd rfl (by first | exact Or.inl rfl | exact Or.inr rfl) (pe_callC c_law_name (hr.mono (by decide)) (pa_cons (pv 0) (pa_cons (pv 5) pa_nil))))) pss_nil)
          (pss_cons (ps_expr (pe_bm PySem.F.plainAttrs_list PySem.F.slot_list_append PySem.F.type_list_append mt_append (pv 5) (pa_cons (pv 7) pa_nil)))
          (pss_one (ps_expr (pe_bm PySem.F.plainAttrs_list PySem.F.slot_list_append PySem.F.type_list_append mt_append (pv 6) (pa_cons (pe_tup (pa_cons (pv 7) (pa_cons (pe_ix (kIxL (K := K)) (pv 1) (pe_callC c_law_draw (hr.mono (by decide)) (pa_cons (pv 0) (pa_cons (pe_callB (kLen (K := K)) (by rfl) T.n_len PySem.boot_len (pa_cons (pv 1) pa_nil)) pa_nil))) (fun _ _ => rfl)) pa_nil))) pa_nil))))))))
          (pss_one (ps_expr (pe_bm PySem.F.plainAttrs_list PySem.F.slot_list_append PySem.F.type_list_append mt_append (pv 3) (pa_cons (pe_tup (pa_cons (pv 4) (pa_cons (pe_cmpR op_eq (pe_callC c_law_draw (hr.mono (by decide)) (pa_cons (pv 0) (pa_cons pe_int pa_nil))) pe_int (nomark _)) (pa_cons (pe_callTy (kTup (K := K)) (by rfl) T.n_tuple (by decide +kernel) (pa_cons (pv 6) pa_nil)) pa_nil)))) pa_nil))))))))
      (pss_one (ps_ret (pe_callTy (kTup (K := K)) (by rfl) T.n_tuple (by decide +kernel) (pa_cons (pv 3) pa_nil)))))))), ?_⟩
    refine ⟨sizeL (by show 0 ≤ 100000; decide), fun p hp => ?_⟩
    have nap : a ≠ p := hS.ne hp
    have hS0 := hS.upd (o := .lst []) nap
    have e0 : Fr1 a H (upd H p (.lst [])) := (Fr1.refl a H).upd hp
    have hp0 : upd H p (.lst []) p = some (.lst []) := upd_same
    generalize upd H p (.lst []) = G0 at *
    refine ⟨_, rfl, a, 5, n + 299, rfl, by decide, by decide, hS0, fun d G1 d0 d1 hS1 e1 => ⟨_, _, rfl, rfl, _, rfl, by omega, by omega, ?_⟩⟩
    have hp1 := e1 _ _ nap.symm hp0
    refine for_range (lo := 0) (n := (1 + d).toNat) (fun i σ Hi => ∃ (ws : List Str) (o2 : Option V), σ = [some (.ref a), some (.ref p), o2, none, none, none, none, none] ∧ ws.length = i ∧ ws.Nodup ∧ (∀ w ∈ ws, Nm w) ∧ Hi p = some (.lst (ws.map V.str)) ∧ StAt Hi a (n + 240 + 10 * (5 - i)) ∧ Fr1 a H Hi) ?_ ?_ ?_
    · exact ⟨[], _, rfl, rfl, List.nodup_nil, by simp, hp1, hS1.mono (by omega), e0.trans e1⟩
    · rintro i σ Hi hi ⟨ws, o2, rfl, hl, hnd, hnm, hpi, hSi, ei⟩
      refine ⟨_, rfl, .inl ⟨rfl, _, SqL.of hpi⟩, _, rfl, _, rfl, a, p, ws, n + 240 + 10 * (5 - (i + 1)), rfl, hpi, hnm, by omega, hSi.mono (by omega), fun w H2 nw nin hS2 e2 => ⟨p, _, _, rfl, rfl, e2 _ _ nap.symm hpi, sizeLt (by rw [List.length_map]; omega), ?_⟩⟩
      refine ⟨ws ++ [w], _, rfl, by simp [hl], nd_snoc hnd nin, fun x hx => ?_, by rw [upd_same, List.map_append]; rfl, hS2.upd nap, (ei.trans e2).upd hp⟩
      rcases List.mem_append.mp hx with h | h
      · exact hnm x h
      · rw [List.mem_singleton.mp h]; exact nw
    · rintro σ Hn ⟨ws, o2, rfl, hl, hnd, hnm, hpn, hSn, en⟩
      have hw1 : 1 ≤ ws.length := by omega
      have hw5 : ws.length ≤ 5 := by omega
      refine ⟨sizeL (by show 0 ≤ 100000; decide), fun E0 hE => ?_⟩
      have hE0 : H E0 = none := en.free (hSn.ne hE).symm hE
      have nE : a ≠ E0 := hSn.ne hE
      have npE : p ≠ E0 := ne_of_none hpn hE
      refine ⟨_, rfl, p, rfl, ⟨_, SqL.of (by rw [upd_ne npE]; exact hpn)⟩, for_list (K := K) (a := p) (xs := ws.map V.str) (fun i σ Hi => ∃ (evs : List V) (pl : Plan) (o2 o4 o5 o6 o7 : Option V), σ = [some (.ref a), some (.ref p), o2, some (.ref E0), o4, o5, o6, o7] ∧ i ≤ ws.length ∧ evs.length = i ∧
        Hi E0 = some (.lst evs) ∧ TdAll Hi evs (pl.map entD) ∧ pl.map (·.1) = ws.take i ∧ (∀ e ∈ pl, GoodRefs ws e.2.2) ∧ Hi p = some (.lst (ws.map V.str)) ∧ StAt Hi a (n + 45 * (5 - i)) ∧ Fr1 a H Hi) ?_ ?_ ?_ ?_⟩
      · exact ⟨[], [], _, _, _, _, _, rfl, Nat.zero_le _, rfl, upd_same, .nil, rfl, by simp, by rw [upd_ne npE]; exact hpn, (hSn.upd nE).mono (by omega), en.upd hE0⟩
      · rintro i σ Hi _ ⟨_, _, _, _, _, _, _, _, _, _, _, _, _, _, hpi, _⟩
        exact SqL.of hpi
      · rintro i y σ Hi hy ⟨evs, pl, o2, o4, o5, o6, o7, rfl, hi, hel, hEi, hTd, hpl, hgr, hpi, hSi, ei⟩
        have hil : i < ws.length := by
          have := (List.getElem?_eq_some_iff.mp hy).1
          rwa [List.length_map] at this
        obtain rfl : y = V.str ws[i] := by
          rw [List.getElem?_map, List.getElem?_eq_getElem hil] at hy
          exact (Option.some.inj hy).symm
        refine ⟨sizeL (by show 0 ≤ 100000; decide), fun co hco => ?_⟩
        have naco : a ≠ co := hSi.ne hco
        have hS1 := hSi.upd (o := .lst []) naco
        have hco1 : upd Hi co (.lst []) co = some (.lst []) := upd_same
        have f1 : Fr1 a Hi (upd Hi co (.lst [])) := (Fr1.refl a Hi).upd hco
        generalize upd Hi co (.lst []) = J1 at *
        refine ⟨sizeL (by show 0 ≤ 100000; decide), fun re hre => ?_⟩
        have nare : a ≠ re := hS1.ne hre
        have ncr : co ≠ re := ne_of_none hco1 hre
        have hre0 : Hi re = none := f1.free nare.symm hre
        have hS2 := hS1.upd (o := .lst []) nare
        have hre2 : upd J1 re (.lst []) re = some (.lst []) := upd_same
        have hco2 : upd J1 re (.lst []) co = some (.lst []) := by rw [upd_ne ncr]; exact hco1
        have f2 : Fr1 a Hi (upd J1 re (.lst [])) := f1.upd hre0
        generalize upd J1 re (.lst []) = J2 at *
        refine ⟨_, rfl, a, 4, n + 45 * (5 - i) - 1, rfl, by decide, by decide, hS2.mono (by omega), fun m J3 m0 m1 hS3 f3 => ⟨_, rfl, by omega, by omega, ?_⟩⟩
        have npco : p ≠ co := ne_of_none hpi hco
        have npre : p ≠ re := ne_of_none hpi hre0
        have nEco : E0 ≠ co := ne_of_none hEi hco
        have nEre : E0 ≠ re := ne_of_none hEi hre0
        refine for_range (lo := 0) (n := m.toNat) (fun j σ Hj => ∃ (cs : List Str) (ys : List V) (rs : List Ref) (o2 o7 : Option V), σ = [some (.ref a), some (.ref p), o2, some (.ref E0), some (.str ws[i]), some (.ref co), some (.ref re), o7] ∧ cs.length = j ∧ cs.Nodup ∧ (∀ w ∈ cs, Nm w) ∧ Hj co = some (.lst (cs.map V.str)) ∧
          ys.length = j ∧ Hj re = some (.lst ys) ∧ TdAll Hj ys (rs.map refD) ∧ rs.map (·.1) = cs ∧ (∀ r ∈ rs, r.2 ∈ ws) ∧ StAt Hj a (n + 45 * (5 - i) - 1 - 13 * j) ∧ Fr1 a Hi Hj) ?_ ?_ ?_
        · exact ⟨[], [], [], _, _, rfl, rfl, List.nodup_nil, by simp, f3 _ _ naco.symm hco2, rfl, f3 _ _ nare.symm hre2, .nil, rfl, by simp, hS3.mono (by omega), f2.trans f3⟩
        · rintro j σ Hj hj ⟨cs, ys, rs, o2, o7, rfl, hcl, hcn, hcm, hcj, hyl, hrj, hTj, hrs, hto, hSj, ej⟩
          have hpj := ej _ _ nap.symm hpi
          have hwl : (ws.map V.str).length = ws.length := List.length_map _
          refine ⟨_, rfl, _, rfl, _, rfl, p, _, rfl, .inl (SqL.of hpj), a, _, n + 45 * (5 - i) - 2 - 13 * j, rfl, (by rw [hwl]; omega), (by rw [hwl]; omega), hSj.mono (by omega), fun z K1 z0 z1 hK1 g1 => ?_⟩
          rw [hwl] at z1
          obtain ⟨t, rfl⟩ : ∃ t : Nat, z = (t : Int) := ⟨z.toNat, by omega⟩
          have ht : t < ws.length := by omega
          refine ⟨p, _, _, V.str ws[t], rfl, rfl, SqL.of (g1 _ _ nap.symm hpj), atI_nat (by rw [List.getElem?_map, List.getElem?_eq_getElem ht]; rfl), ?_⟩
          have hc1 := g1 _ _ naco.symm hcj
          have hr1 := g1 _ _ nare.symm hrj
          have k1 := hSj.kt g1
          refine ⟨fun σ' H' => ∃ (c : Str) (o2 : Option V), σ' = [some (.ref a), some (.ref p), o2, some (.ref E0), some (.str ws[i]), some (.ref co), some (.ref re), some (.str c)] ∧ Nm c ∧ c ∉ cs ∧ StAt H' a (n + 45 * (5 - i) - 13 - 13 * j) ∧ Fr1 a Hj H', ?_, ?_⟩
          · refine ⟨_, rfl, _, rfl, co, _, rfl, .inl (SqL.of hc1), rfl, flat_strs cs, decide (ws[t] ∈ cs), ?gm, ite2 (fun hin => iteT ?ga) (fun hin => ⟨_, rfl, a, 4, n + 45 * (5 - i) - 3 - 13 * j, rfl, by decide, by decide, hK1.mono (by omega), fun z2 K2 z20 z21 hK2 g2 => ⟨_, _, rfl, rfl, _, rfl, ite2 (fun hz => ?gb) (fun hz => ?gc)⟩⟩)⟩
            case gm =>
              show V.bl (inV _ _) = _
              rw [inV_strs]
            case gc => exact ⟨_, _, rfl, hnm _ (List.getElem_mem ht), by simpa using hin, hK2.mono (by omega), g1.trans g2⟩
            case' ga => obtain ⟨Kx, hKx, hSx, gx, hcx⟩ : ∃ Kx, K1 = Kx ∧ StAt Kx a (n + 45 * (5 - i) - 3 - 13 * j) ∧ Fr1 a Hj Kx ∧ Kx co = some (.lst (cs.map V.str)) := ⟨_, rfl, hK1.mono (by omega), g1, hc1⟩
            case' gb => obtain ⟨Kx, hKx, hSx, gx, hcx⟩ : ∃ Kx, K2 = Kx ∧ StAt Kx a (n + 45 * (5 - i) - 3 - 13 * j) ∧ Fr1 a Hj Kx ∧ Kx co = some (.lst (cs.map V.str)) := ⟨_, rfl, hK2, g1.trans g2, g2 _ _ naco.symm hc1⟩
            all_goals
              subst hKx
              refine ⟨_, rfl, _, rfl, a, co, cs, n + 45 * (5 - i) - 13 - 13 * j, rfl, hcx, hcm, by omega, hSx.mono (by omega), fun w K3 nw nin hK3 g3 => ?_⟩
              exact ⟨_, _, rfl, nw, nin, hK3, gx.trans g3⟩
          · rintro σ' K4 ⟨c, o2, rfl, nc, ncs, hK4, g4⟩
            have hc4 := g4 _ _ naco.symm hcj
            have hr4 := g4 _ _ nare.symm hrj
            have hp4 := g4 _ _ nap.symm hpj
            refine ⟨_, rfl, .inl ⟨rfl, _, SqL.of hc4⟩, _, rfl, co, _, _, rfl, rfl, hc4, sizeLt (by rw [List.length_map]; omega), ?_⟩
            have hr5 : upd K4 co (.lst (cs.map V.str ++ [.str c])) re = some (.lst ys) := by rw [upd_ne ncr.symm]; exact hr4
            have hp5 : upd K4 co (.lst (cs.map V.str ++ [.str c])) p = some (.lst (ws.map V.str)) := by rw [upd_ne npco]; exact hp4
            have hS5 : StAt (upd K4 co (.lst (cs.map V.str ++ [.str c]))) a (n + 45 * (5 - i) - 13 - 13 * j) := hK4.upd naco
            have e5 : Fr1 a Hi (upd K4 co (.lst (cs.map V.str ++ [.str c]))) := (ej.trans g4).upd hco
            have k5 : KT Hj (upd K4 co (.lst (cs.map V.str ++ [.str c]))) := (hSj.kt g4).updL hc4
            have hc5 : upd K4 co (.lst (cs.map V.str ++ [.str c])) co = some (.lst (cs.map V.str ++ [.str c])) := upd_same
            generalize upd K4 co (.lst (cs.map V.str ++ [.str c])) = K5 at *
            refine ⟨_, rfl, .inl ⟨rfl, _, SqL.of hr5⟩, _, rfl, _, rfl, _, rfl, _, rfl, p, _, rfl, .inl (SqL.of hp5), a, _, n + 45 * (5 - i) - 14 - 13 * j, rfl, (by rw [hwl]; omega), (by rw [hwl]; omega), hS5.mono (by omega), fun z K6 z0 z1 hK6 g6 => ?_⟩
            rw [hwl] at z1
            obtain ⟨u, rfl⟩ : ∃ u : Nat, z = (u : Int) := ⟨z.toNat, by omega⟩
            have hu : u < ws.length := by omega
            refine ⟨p, _, _, V.str ws[u], rfl, rfl, SqL.of (g6 _ _ nap.symm hp5), atI_nat (by rw [List.getElem?_map, List.getElem?_eq_getElem hu]; rfl), sizeL (by show 2 ≤ 100000; decide), fun tp htp => ?_⟩
            have hr6 := g6 _ _ nare.symm hr5
            have hc6 := g6 _ _ naco.symm hc5
            have nrt : re ≠ tp := ne_of_none hr6 htp
            have nct : co ≠ tp := ne_of_none hc6 htp
            have hr7 : upd K6 tp (.tup [V.str c, V.str ws[u]]) re = some (.lst ys) := by rw [upd_ne nrt]; exact hr6
            have k7 : KT Hj (upd K6 tp (.tup [V.str c, V.str ws[u]])) := (k5.trans (hS5.kt g6)).trans (KT.of (Same.upd (Same.refl K6) htp))
            have hTp : upd K6 tp (.tup [V.str c, V.str ws[u]]) tp = some (.tup [V.str c, V.str ws[u]]) := upd_same
            have e7 : Fr1 a Hi (upd K6 tp (.tup [V.str c, V.str ws[u]])) := (e5.trans g6).upd ((e5.trans g6).free (hK6.ne htp).symm htp)
            have hS7 : StAt (upd K6 tp (.tup [V.str c, V.str ws[u]])) a (n + 45 * (5 - i) - 14 - 13 * j) := hK6.upd (hK6.ne htp)
            have hc7 : upd K6 tp (.tup [V.str c, V.str ws[u]]) co = some (.lst (cs.map V.str ++ [.str c])) := by rw [upd_ne nct]; exact hc6
            generalize upd K6 tp (.tup [V.str c, V.str ws[u]]) = K7 at *
            refine ⟨re, ys, _, rfl, rfl, hr7, sizeLt (by omega), ?_⟩
            have k8 : KT K7 (upd K7 re (.lst (ys ++ [.ref tp]))) := (KT.refl K7).updL hr7
            refine ⟨cs ++ [c], ys ++ [.ref tp], rs ++ [(c, ws[u])], _, _, rfl, by simp [hcl], nd_snoc hcn ncs, fun x hx => ?_, ?_, by simp [hyl], upd_same, ?_, ?_, fun r hr => ?_, (hS7.upd nare).mono (by omega), e7.upd hre0⟩
            · rcases List.mem_append.mp hx with h | h
              · exact hcm x h
              · rw [List.mem_singleton.mp h]; exact nc
            · rw [upd_ne ncr, hc7, List.map_append]
              rfl
            · rw [List.map_append]
              exact (hTj.mono (k7.trans k8)).append (.cons (.tup (xs := [V.str c, V.str ws[u]]) (k8 _ _ hTp) (.cons (.str _) (.cons (.str _) .nil))) .nil)
            · rw [List.map_append, hrs]
              rfl
            · rcases List.mem_append.mp hr with h | h
              · exact hto r h
              · rw [List.mem_singleton.mp h]
                exact List.getElem_mem hu
        · rintro σ Hj ⟨cs, ys, rs, o2', o7', rfl, hcl, hcn, hcm, hcj, hyl, hrj, hTj, hrs, hto, hSj, ej⟩
          have hEj := ej _ _ nE.symm hEi
          refine ⟨_, rfl, .inl ⟨rfl, _, SqL.of hEj⟩, _, rfl, _, rfl, a, 2, n + 45 * (5 - (i + 1)), rfl, by decide, by decide, hSj.mono (by omega), fun u K1 u0 u1 hK1 g1 => ⟨rfl, ?_⟩⟩
          have hEk := g1 _ _ nE.symm hEj
          have hrk := g1 _ _ nare.symm hrj
          have fk := ej.trans g1
          have ktk := hSi.kt fk
          refine ⟨_, rfl, re, _, rfl, .inl ⟨SqL.of hrk, fun t1 ht1 => ⟨sizeL (by show 3 ≤ 100000; decide), fun t2 ht2 => ?_⟩⟩⟩
          have n12 : t1 ≠ t2 := fun e => by
            rw [e, upd_same] at ht2
            cases ht2
          have nE1 : E0 ≠ t1 := ne_of_none hEk ht1
          have ht2' : K1 t2 = none := by
            rw [upd_ne n12.symm] at ht2
            exact ht2
          have nE2 : E0 ≠ t2 := ne_of_none hEk ht2'
          have r1 := Same.upd (o := .tup ys) (Same.refl K1) ht1
          have r2 := Same.upd (o := .tup [V.str ws[i], .bl (decide (V.int u = V.int 0)), .ref t1]) r1 (r1.free ht2)
          have hE7 := r2 _ _ hEk
          have hS7 := hK1.same r2
          have hT1 : upd (upd K1 t1 (.tup ys)) t2 (.tup [V.str ws[i], .bl (decide (V.int u = V.int 0)), .ref t1]) t1 = some (.tup ys) := by rw [upd_ne n12, upd_same]
          have hT2 : upd (upd K1 t1 (.tup ys)) t2 (.tup [V.str ws[i], .bl (decide (V.int u = V.int 0)), .ref t1]) t2 = some (.tup [V.str ws[i], .bl (decide (V.int u = V.int 0)), .ref t1]) := upd_same
          have e7 : Fr1 a Hi (upd (upd K1 t1 (.tup ys)) t2 (.tup [V.str ws[i], .bl (decide (V.int u = V.int 0)), .ref t1])) := fk.trans (Fr1.of r2)
          generalize upd (upd K1 t1 (.tup ys)) t2 (.tup [V.str ws[i], .bl (decide (V.int u = V.int 0)), .ref t1]) = K7 at *
          refine ⟨E0, evs, _, rfl, rfl, hE7, sizeLt (by omega), ?_⟩
          have k8 : KT K7 (upd K7 E0 (.lst (evs ++ [.ref t2]))) := (KT.refl K7).updL hE7
          have ei7 := ei.trans e7
          refine ⟨evs ++ [.ref t2], pl ++ [(ws[i], decide (V.int u = V.int 0), rs)], _, _, _, _, _, rfl, hil, by simp [hel], upd_same, ?_, ?_, ?_, ?_, (hS7.upd nE).mono (by omega), ei7.upd hE0⟩
          · rw [List.map_append]
            exact (hTd.mono ((hSi.kt e7).trans k8)).append (.cons (.tup (xs := [V.str ws[i], .bl (decide (V.int u = V.int 0)), .ref t1]) (k8 _ _ hT2) (.cons (.str _) (.cons (.bl _) (.cons (.tup (xs := ys) (k8 _ _ hT1) (hTj.mono (((hSj.kt g1).trans (KT.of r2)).trans k8))) .nil)))) .nil)
          · rw [List.map_append, hpl, List.take_succ_eq_append_getElem hil]
            rfl
          · intro e he
            rcases List.mem_append.mp he with h | h
            · exact hgr e h
            · rw [List.mem_singleton.mp h]
              refine ⟨by show rs.length ≤ 3; have := congrArg List.length hrs; rw [List.length_map] at this; omega, fun r hr => hcm r.1 (by rw [← hrs]; exact List.mem_map.mpr ⟨r, hr, rfl⟩), hto, by show (rs.map (·.1)).Nodup; rw [hrs]; exact hcn⟩
          · rw [upd_ne npE]
            exact e7 _ _ nap.symm hpi
      · rintro σ Hi ⟨evs, pl, o2, o4, o5, o6, o7, rfl, hi, hel, hEi, hTd, hpl, hgr, hpi, hSi, ei⟩
        rw [List.length_map] at hpl hel hSi
        rw [List.take_length] at hpl
        have hpll : pl.length = ws.length := by rw [← hpl, List.length_map]
        refine ⟨_, rfl, E0, _, rfl, .inl ⟨SqL.of hEi, fun t ht => ?_⟩⟩
        refine q _ pl _ (.tup upd_same (hTd.mono (KT.of (Same.upd (Same.refl Hi) ht)))) ?_ ((hSi.upd (hSi.ne ht)).mono (by omega)) (ei.upd (ei.free (hSi.ne ht).symm ht))
        refine ⟨by omega, by omega, fun e he => hnm e.1 (by rw [← hpl]; exact List.mem_map.mpr ⟨e, he, rfl⟩), by rw [hpl]; exact hnd, fun e he => by rw [hpl]; exact hgr e he⟩
end My
namespace My
open PySem L2
def spStep : Sp := fun vs H Q _ => ∃ (a : Addr) (tv : V) (pl : Plan) (n : Nat), vs = [.ref a, tv] ∧ Td H tv (planD pl) ∧ Good pl ∧ StAt H a (n + 5) ∧ ∀ (v : V) (d : PyData) (H' : Hp), Td H' v d → StepD pl d → StAt H' a n → Fr1 a H H' → Q v H'
theorem three_at {j : Nat} (x y z : Str) (h : j < 3) : ∃ w, ([V.str x, .str y, .str z] : List V)[j]? = some (.str w) ∧ w ∈ [x, y, z] := by
  match j, h with
  | 0, _ => exact ⟨x, rfl, by simp⟩
  | 1, _ => exact ⟨y, rfl, by simp⟩
  | 2, _ => exact ⟨z, rfl, by simp⟩
theorem ok_law_step {P : Program} {w : World} {K : PySem.W.Frag} {mg : Str → Option Value} {base : Heap} {CS CP XCarryError XNoStep XNoKept XNoStops XNotSame XNotSafe XNoFlag XNoStrokes XNothingBegun XNoSchema XNoTable XNoColumn XMissing XNoKey XNoRow XTaken XNotClosed XRefused XNoText XT_MISSING_WORDS XT_COLUMN_STEPS : Addr} (T : Txt K mg CS CP XCarryError XNoStep XNoKept XNoStops XNotSame XNotSafe XNoFlag XNoStrokes XNothingBegun XNoSchema XNoTable XNoColumn XMissing XNoKey XNoRow XTaken XNotClosed XRefused XNoText XT_MISSING_WORDS XT_COLUMN_STEPS) : CallOk P w K mg base 2 "_law_step" spStep := by
  have c_law_draw := ok_law_draw (P := P) (w := w) (base := base) T
  refine T.d_law_step.ok sc_law_step (fun vs H Q E h => ?_) (fun f cdv A outer s H vs Q E hr h => ?_)
  · obtain ⟨a, tv, pl, n, rfl, _⟩ := h
    rfl
  · obtain ⟨a, tv, pl, n, rfl, hT, g, hS, q⟩ := h
    obtain ⟨t, txs, rfl, ht, hx⟩ := hT.tup_inv
    have hlx : txs.length = pl.length := by rw [hx.length, List.length_map]
    have hlo := g.lo
    have hhi := g.hi
    refine ⟨_, (pss_cons (ps_asg (pe_ix (kIxT (K := K)) (pv 1) (pe_callC c_law_draw (hr.mono (by decide)) (pa_cons (pv 0) (pa_cons (pe_callB (kLen (K := K)) (by rfl) T.n_len PySem.boot_len (pa_cons (pv 1) pa_nil)) pa_nil))) (fun _ _ => rfl)) (kPgT (K := K) (n := 3) rfl (pgs_cons (pg_name (i := 2) sc_law_step.nd rfl (by first | exact Or.inl rfl | exact Or.inr rfl)) (pgs_cons (pg_name (i := 3) sc_law_step.nd rfl (by first | exact Or.inl rfl | exact Or.inr rfl)) (pgs_cons (pg_name (i := 4) sc_law_step.nd rfl (by first | exact Or.inl rfl | exact Or.inr rfl)) pgs_nil)))))
      (pss_cons (ps_set (i := 5) sc_law_step.nd rfl (by first | exact Or.inl rfl | exact Or.inr rfl) (pe_callC c_law_draw (hr.mono (by decide)) (pa_cons (pv 0) (pa_cons pe_int pa_nil))))
      (pss_cons (ps_if (PW.pt (pw_or (pt_cmpR op_lt (pv 5) pe_int (nomark _)) (pw_or1 (pt_cmpR (kEqD (K := K) hr.units) (pv 4) (pe_tup pa_nil) (nomark _))))) (pss_one (ps_ret (pe_tup (pa_cons pe_str (pa_cons (pv 2) (pa_cons (pe_ix (kIxL (K := K)) (pe_lst (pa_cons pe_str (pa_cons pe_str (pa_cons pe_str pa_nil)))) (pe_callC c_law_draw (hr.mono (by decide)) (pa_cons (pv 0) (pa_cons pe_int pa_nil))) (fun _ _ => rfl)) (pa_cons (pe_cmpR op_eq (pe_callC c_law_draw (hr.mono (by decide)) (pa_cons (pv 0) (pa_cons pe_int pa_nil))) pe_int (nomark _)) pa_nil))))))) pss_nil)
      (pss_one (ps_ret (pe_tup (pa_cons (pe_ix (kIxL (K := K)) (pe_lst (pa_cons pe_str (pa_cons pe_str (pa_cons pe_str pa_nil)))) (pe_op op_sub (pv 5) pe_int) (fun _ _ => rfl)) (pa_cons (pv 2) (pa_cons (pe_ix (kIxT (K := K)) (pe_ix (kIxT (K := K)) (pv 4) (pe_callC c_law_draw (hr.mono (by decide)) (pa_cons (pv 0) (pa_cons (pe_callB (kLen (K := K)) (by rfl) T.n_len PySem.boot_len (pa_cons (pv 4) pa_nil)) pa_nil))) (fun _ _ => rfl)) pe_int (fun _ _ => rfl)) pa_nil))))))))), ?_⟩
    refine ⟨_, rfl, _, rfl, _, rfl, t, _, rfl, .inr (SqT.of ht), a, _, n + 4, rfl, by omega, by omega, hS.mono (by omega), fun j' G1 j0 j1 hS1 e1 => ?_⟩
    obtain ⟨j, rfl⟩ : ∃ j : Nat, j' = (j : Int) := ⟨j'.toNat, by omega⟩
    have hj : j < txs.length := by omega
    have kt1 := hS.kt e1
    have ht1 := kt1 _ _ ht
    have hxj := List.getElem?_eq_getElem hj
    obtain ⟨en, hen, hTd⟩ := (hx.mono kt1).getM hxj
    obtain ⟨tn, tr, rs, etn, htn, htr, hrs⟩ := entD_inv hTd
    rw [etn] at hxj
    have hem := List.mem_of_getElem? hen
    have gr := g.refs en hem
    have gl3 := gr.len
    have hlr : rs.length = en.2.2.length := by rw [hrs.length, List.length_map]
    refine ⟨t, _, _, _, rfl, rfl, SqT.of ht1, atI_nat hxj, tn, _, rfl, SqT.of htn, rfl, _, _, rfl, _, _, rfl, _, _, rfl, rfl, ?_⟩
    refine ⟨_, rfl, a, 5, n + 3, rfl, by decide, by decide, hS1.mono (by omega), fun way G2 w0 w1 hS2 e2 => ?_⟩
    have kt2 := hS1.kt e2
    have htr2 := kt2 _ _ htr
    have hrs2 := hrs.mono kt2
    have e02 := e1.trans e2
    refine ⟨_, rfl, _, _, rfl, rfl, _, rfl, ite2 (fun c0 => iteT ?ga) (fun c0 => ⟨_, rfl, sizeL (by show 0 ≤ 100000; decide), fun l hl => ?gb⟩)⟩
    case' ga => obtain ⟨Gx, hGx, hSx, ex⟩ : ∃ Gx, Gx = G2 ∧ StAt Gx a (n + 3) ∧ Fr1 a H Gx := ⟨_, rfl, hS2, e02⟩
    case' ga => subst hGx
    case' gb =>
      have r1 := Same.upd (o := .tup []) (Same.refl G2) hl
      have hl1 : upd G2 l (.tup []) l = some (.tup []) := upd_same
      have hSx := hS2.same r1
      have ex := e02.trans (Fr1.of r1)
      have hTr : Td (upd G2 l (.tup [])) (.ref tr) (refsD en.2.2) := .tup (r1 _ _ htr2) (hrs2.mono (KT.of r1))
      have htr3 := r1 _ _ htr2
      have hrs3 := hrs2.mono (KT.of r1)
      generalize upd G2 l (.tup []) = Gx at *
      refine ⟨refsD en.2.2, .tuple [], hTr.dp, (Td.tup hl1 .nil).dp, (g.refsD_fine hem).sh (by decide), (Fine.tup (n := 1) (by simp)).sh (by decide), (en.2.2.map refD).isEmpty, by unfold refsD; rw [eqv_tups_nil], ite2 (fun hb => ?gc) (fun hb => ?gd)⟩
    case gd =>
      have hne : en.2.2 ≠ [] := by
        intro z
        rw [z] at hb
        exact hb rfl
      have hpos : 0 < en.2.2.length := List.length_pos_iff.mpr hne
      have w2 : 2 ≤ way := by
        have := c0
        simp only [decide_eq_true_eq] at this
        omega
      refine ⟨sizeL (by show 3 ≤ 100000; decide), fun M hM => ?_⟩
      have r2 := Same.upd (o := .lst [.str "patch", .str "fill", .str "sweep"]) (Same.refl Gx) hM
      have hM1 : upd Gx M (.lst [.str "patch", .str "fill", .str "sweep"]) M = some (.lst [.str "patch", .str "fill", .str "sweep"]) := upd_same
      have hSy := hSx.same r2
      have ey := ex.trans (Fr1.of r2)
      have htr4 := r2 _ _ htr3
      have hrs4 := hrs3.mono (KT.of r2)
      generalize upd Gx M (.lst [.str "patch", .str "fill", .str "sweep"]) = Gy at *
      obtain ⟨m, rfl⟩ : ∃ m : Nat, way = (m : Int) + 2 := ⟨(way - 2).toNat, by omega⟩
      obtain ⟨w, hw, hwm⟩ := three_at (j := m) "patch" "fill" "sweep" (by omega)
      refine ⟨_, rfl, _, _, rfl, rfl, M, _, _, .str w, rfl, rfl, SqL.of hM1, ?_, ?_⟩
      · rw [show (m : Int) + 2 - 2 = (m : Int) by omega]
        exact atI_nat hw
      refine ⟨_, rfl, _, rfl, _, rfl, _, rfl, tr, _, rfl, .inr (SqT.of htr4), a, _, n, rfl, by omega, by omega, hSy.mono (by omega), fun z K1 z0 z1 hK1 g1 => ?_⟩
      obtain ⟨i, rfl⟩ : ∃ i : Nat, z = (i : Int) := ⟨z.toNat, by omega⟩
      have hi : i < rs.length := by omega
      have k1 := hSy.kt g1
      have hri := List.getElem?_eq_getElem hi
      obtain ⟨r, hr, hTr'⟩ := (hrs4.mono k1).getM hri
      obtain ⟨tt, ett, htt⟩ := refD_inv hTr'
      rw [ett] at hri
      refine ⟨tr, _, _, _, rfl, rfl, SqT.of (k1 _ _ htr4), atI_nat hri, tt, _, _, _, rfl, rfl, SqT.of htt, rfl, sizeL (by show 3 ≤ 100000; decide), fun u hu => ?_⟩
      refine q _ _ _ (.tup upd_same (.cons (.str _) (.cons (.str _) (.cons (.str _) .nil)))) (.col w en.1 r.1 hwm ⟨en, hem, rfl, List.mem_map.mpr ⟨r, List.mem_of_getElem? hr, rfl⟩⟩) (hK1.upd (hK1.ne hu)) ((ey.trans g1).upd ((ey.trans g1).free (hK1.ne hu).symm hu))
    all_goals
      refine ⟨_, rfl, sizeL (by show 3 ≤ 100000; decide), fun M hM => ?_⟩
      have r2 := Same.upd (o := .lst [.str "raw", .str "blank", .str "refuse"]) (Same.refl Gx) hM
      have hM1 : upd Gx M (.lst [.str "raw", .str "blank", .str "refuse"]) M = some (.lst [.str "raw", .str "blank", .str "refuse"]) := upd_same
      have hSy := hSx.same r2
      have ey := ex.trans (Fr1.of r2)
      refine ⟨_, rfl, a, 3, n + 1, rfl, by decide, by decide, hSy.mono (by omega), fun z K1 z0 z1 hK1 g1 => ?_⟩
      obtain ⟨i, rfl⟩ : ∃ i : Nat, z = (i : Int) := ⟨z.toNat, by omega⟩
      obtain ⟨w, hw, hwm⟩ := three_at (j := i) "raw" "blank" "refuse" (by omega)
      refine ⟨M, _, _, .str w, rfl, rfl, SqL.of (g1 _ _ (hSx.ne hM).symm hM1), atI_nat hw, ?_⟩
      refine ⟨_, rfl, a, 2, n, rfl, by decide, by decide, hK1.mono (by omega), fun u K2 u0 u1 hK2 g2 => ⟨rfl, sizeL (by show 4 ≤ 100000; decide), fun tp htp => ?_⟩⟩
      refine q _ _ _ (.tup upd_same (.cons (.str _) (.cons (.str _) (.cons (.str _) (.cons (.bl _) .nil))))) (.load en.1 w _ (List.mem_map.mpr ⟨en, hem, rfl⟩) hwm) (hK2.upd (hK2.ne htp)) (((ey.trans g1).trans g2).upd (((ey.trans g1).trans g2).free (hK2.ne htp).symm htp))
end My
namespace My
open PySem L2
def spFlag : Sp := fun vs H Q _ => ∃ v d, vs = [v] ∧ Th H v d ∧ Q (.bl (isBoolD d)) H
theorem ok_is_flag {P : Program} {w : World} {K : PySem.W.Frag} {mg : Str → Option Value} {base : Heap} {CS CP XCarryError XNoStep XNoKept XNoStops XNotSame XNotSafe XNoFlag XNoStrokes XNothingBegun XNoSchema XNoTable XNoColumn XMissing XNoKey XNoRow XTaken XNotClosed XRefused XNoText XT_MISSING_WORDS XT_COLUMN_STEPS : Addr} (T : Txt K mg CS CP XCarryError XNoStep XNoKept XNoStops XNotSame XNotSafe XNoFlag XNoStrokes XNothingBegun XNoSchema XNoTable XNoColumn XMissing XNoKey XNoRow XTaken XNotClosed XRefused XNoText XT_MISSING_WORDS XT_COLUMN_STEPS) : CallOk P w K mg base 1 "is_flag" spFlag := by
  refine T.d_is_flag.ok sc_is_flag (fun vs H Q E h => ?_) (fun f cdv A outer s H vs Q E hr h => ?_)
  · obtain ⟨v, d, rfl, _⟩ := h
    rfl
  · obtain ⟨v, d, rfl, hT, q⟩ := h
    rw [← isD_or d] at q
    refine ⟨_, (pss_one (ps_ret (pe_or (pe_cmpR op_isAny (pv 0) pe_bl (nomark _)) (pe_one (pe_cmpR op_isAny (pv 0) pe_bl (nomark _)))))), ?_⟩
    refine ⟨_, rfl, true, d, rfl, hT, _, rfl, ite2 (fun c => ?_) (fun c => ?_)⟩
    · rw [show isD true d = true from c] at q
      exact q
    · rw [show isD true d = false by simpa using c] at q
      exact ⟨_, rfl, false, d, rfl, hT, q⟩
end My
namespace My
open PySem L2
def spOneOf (K : PySem.W.Frag) : Sp := fun vs H Q _ => ∃ v w : V, vs = [v, w] ∧ ((∃ t, TyX K H v t ∧ PySem.W.kitOne K t (.type "str") = some false ∧ Q (.bl false) H) ∨
  ∃ x, v = .str x ∧ ((∃ a o, w = .ref a ∧ DGet H a (.str x) o ∧ Q (.bl o.isSome) H) ∨ ∃ p xs, w = .ref p ∧ (SqL K H p xs ∨ SqT K H p xs) ∧ xs.all flatV = true ∧ Q (.bl (inV (.str x) xs)) H))
theorem ok_is_one_of {P : Program} {w : World} {K : PySem.W.Frag} {mg : Str → Option Value} {base : Heap} {CS CP XCarryError XNoStep XNoKept XNoStops XNotSame XNotSafe XNoFlag XNoStrokes XNothingBegun XNoSchema XNoTable XNoColumn XMissing XNoKey XNoRow XTaken XNotClosed XRefused XNoText XT_MISSING_WORDS XT_COLUMN_STEPS : Addr} (T : Txt K mg CS CP XCarryError XNoStep XNoKept XNoStops XNotSame XNotSafe XNoFlag XNoStrokes XNothingBegun XNoSchema XNoTable XNoColumn XMissing XNoKey XNoRow XTaken XNotClosed XRefused XNoText XT_MISSING_WORDS XT_COLUMN_STEPS) : CallOk P w K mg base 1 "is_one_of" (spOneOf K) := by
  refine T.d_is_one_of.ok sc_is_one_of (fun vs H Q E h => ?_) (fun f cdv A outer s H vs Q E hr h => ?_)
  · obtain ⟨v, w, rfl, _⟩ := h
    rfl
  · obtain ⟨v, w, rfl, h⟩ := h
    have hu := hu_of hr
    refine ⟨_, (pss_one (ps_ret (pe_and (pe_callB (kIsi (K := K)) (by rfl) T.n_isinstance (by decide +kernel) (pa_cons (pv 0) (pa_cons (pe_bltn (v := .ty "str") (by rfl) T.n_str (by decide +kernel) rfl) pa_nil))) (pe_one (pe_cmpR (kInG (K := K) hu) (pv 0) (pv 1) rfl))))), ?_⟩
    rcases h with ⟨t, ty, ko, q⟩ | ⟨x, rfl, h⟩
    · exact ⟨_, rfl, v, _, t, _, false, rfl, ClsV.ty "str", ty, ko, false, rfl, iteF q⟩
    · refine ⟨_, rfl, _, _, _, _, true, rfl, ClsV.ty "str", TyX.base (TyOf.str x), kit_ty (by decide +kernel), true, rfl, iteT ?_⟩
      refine ⟨_, rfl, _, rfl, ?_⟩
      rcases h with ⟨a, o, rfl, g, q⟩ | ⟨p, xs, rfl, hx, hf, q⟩
      · exact Or.inl ⟨a, o, rfl, g, q⟩
      · exact Or.inr ⟨p, xs, rfl, hx, rfl, hf, q⟩
end My
namespace My
open PySem L2
def spName : Sp := fun vs H Q _ => ∃ w, vs = [.str w] ∧ Nm w ∧ ∀ H', Same H H' → Q (.bl true) H'
theorem ok_is_name {P : Program} {w : World} {K : PySem.W.Frag} {mg : Str → Option Value} {base : Heap} {CS CP XCarryError XNoStep XNoKept XNoStops XNotSame XNotSafe XNoFlag XNoStrokes XNothingBegun XNoSchema XNoTable XNoColumn XMissing XNoKey XNoRow XTaken XNotClosed XRefused XNoText XT_MISSING_WORDS XT_COLUMN_STEPS : Addr} (T : Txt K mg CS CP XCarryError XNoStep XNoKept XNoStops XNotSame XNotSafe XNoFlag XNoStrokes XNothingBegun XNoSchema XNoTable XNoColumn XMissing XNoKey XNoRow XTaken XNotClosed XRefused XNoText XT_MISSING_WORDS XT_COLUMN_STEPS) : CallOk P w K mg base 1 "is_name" spName := by
  refine T.d_is_name.ok sc_is_name (fun vs H Q E h => ?_) (fun f cdv A outer s H vs Q E hr h => ?_)
  · obtain ⟨w, rfl, _⟩ := h
    rfl
  · obtain ⟨w, rfl, nw, q⟩ := h
    refine ⟨_, (pss_cons (ps_if (PW.pt (pw_or (pt_not (pt_val (pe_callB (kIsi (K := K)) (by rfl) T.n_isinstance (by decide +kernel) (pa_cons (pv 0) (pa_cons (pe_bltn (v := .ty "str") (by rfl) T.n_str (by decide +kernel) rfl) pa_nil))))) (pw_or1 (pt_not (pt_chain op_le op_le pe_int (pe_callB call_len_str (by rfl) T.n_len PySem.boot_len (pa_cons (pv 0) pa_nil)) (pe_globV T.v_LONGEST_NAME)))))) (pss_one (ps_ret pe_bl)) pss_nil)
      (pss_one (ps_ret (pe_callB (kAll (K := K) rfl) (by rfl) T.n_all (by decide +kernel) (pa_cons (pe_lc (own := [("letter", 1)]) rfl sc_is_name.nd (pi_str (pv 0)) (blkOk_by (N := ["value", "letter"]) (sc := defScope s_is_name) (own := [("letter", 1)]) (by decide +kernel)) (fun _ _ _ _ _ => (pg_name (i := 1) sc_is_name.nd rfl (by first | exact Or.inl rfl | exact Or.inr rfl))) (fun _ _ _ _ _ => pts_nil) (fun _ _ _ _ _ => (pe_cmpR op_in_sign (pv 1) (pe_globV T.v_LETTERS) rfl))) pa_nil))))), ?_⟩
    have l1 := nw.lo
    have l8 := nw.hi
    have hz : w.length ≤ sizeLine := sizeL (by omega)
    refine ⟨_, rfl, _, _, _, _, true, rfl, ClsV.ty "str", TyX.base (TyOf.str w), kit_ty (by decide +kernel), _, rfl, ?_⟩
    refine iteF ?_
    refine ⟨_, rfl, w, rfl, hz, _, _, rfl, rfl, true, ?_, iteT ⟨_, _, rfl, rfl, true, ?_, iteF ?_⟩⟩
    · exact congrArg V.bl (decide_eq_true (show (1 : Int) ≤ (w.length : Int) by omega))
    · exact congrArg V.bl (decide_eq_true (show (w.length : Int) ≤ 8 by omega))
    refine ⟨_, rfl, _, rfl, fun D hD => lc_str (x := w) (fun i Hi => Hi D = some (.lst (List.replicate i (V.bl true))) ∧ Same H Hi) ?_ ?_ ?_⟩
    · exact ⟨upd_same, Same.upd (Same.refl H) hD⟩
    · rintro i c Hi hc ⟨hl, e⟩
      have hcm : c ∈ w.cps.toList := by
        rw [← Array.getElem?_toList] at hc
        exact List.mem_of_getElem? hc
      have hi : i < 8 := by
        have h1 := (Array.getElem?_eq_some_iff.mp hc).1
        have h2 : w.cps.size ≤ 8 := l8
        omega
      refine ⟨rfl, tYes_if ?_⟩
      refine ⟨_, rfl, c, abc, rfl, rfl, _, hl, sizeLt (by rw [List.length_replicate]; omega), ?_, ?_⟩
      · rw [decide_eq_true ((abc_mem c).mpr (nw.az c hcm)), upd_same, rep_snoc]
      · exact Same.upd e hD
    · rintro Hi ⟨hl, e⟩
      refine ⟨D, List.replicate w.cps.size true, rfl, SqL.of (by rw [hl, rep_bl]), ?_⟩
      rw [all_true]
      exact q _ e
end My
namespace My
open PySem L2
def spRef : Sp := fun vs H Q _ => ∃ v r, vs = [v] ∧ Td H v (refD r) ∧ Nm r.1 ∧ Nm r.2 ∧ ∀ H', Same H H' → Q (.bl true) H'
theorem ok_is_reference {P : Program} {w : World} {K : PySem.W.Frag} {mg : Str → Option Value} {base : Heap} {CS CP XCarryError XNoStep XNoKept XNoStops XNotSame XNotSafe XNoFlag XNoStrokes XNothingBegun XNoSchema XNoTable XNoColumn XMissing XNoKey XNoRow XTaken XNotClosed XRefused XNoText XT_MISSING_WORDS XT_COLUMN_STEPS : Addr} (T : Txt K mg CS CP XCarryError XNoStep XNoKept XNoStops XNotSame XNotSafe XNoFlag XNoStrokes XNothingBegun XNoSchema XNoTable XNoColumn XMissing XNoKey XNoRow XTaken XNotClosed XRefused XNoText XT_MISSING_WORDS XT_COLUMN_STEPS) : CallOk P w K mg base 2 "_is_reference" spRef := by
  have c_is_name := ok_is_name (P := P) (w := w) (base := base) T
  refine T.d_is_reference.ok sc_is_reference (fun vs H Q E h => ?_) (fun f cdv A outer s H vs Q E hr h => ?_)
  · obtain ⟨v, r, rfl, _⟩ := h
    rfl
  · obtain ⟨v, r, rfl, hv, n1, n2, q⟩ := h
    obtain ⟨t, rfl, ht⟩ := refD_inv hv
    refine ⟨_, (pss_cons (ps_if (PW.pt (pw_or (pt_not (pt_val (pe_callB (kIsi (K := K)) (by rfl) T.n_isinstance (by decide +kernel) (pa_cons (pv 0) (pa_cons (pe_bltn (v := .ty "tuple") (by rfl) T.n_tuple (by decide +kernel) rfl) pa_nil))))) (pw_or1 (pt_cmpR op_ne (pe_callB (kLen (K := K)) (by rfl) T.n_len PySem.boot_len (pa_cons (pv 0) pa_nil)) pe_int (nomark _))))) (pss_one (ps_ret pe_bl)) pss_nil)
      (pss_cons (ps_asg (pv 0) (kPgT (K := K) (n := 2) rfl (pgs_cons (pg_name (i := 1) sc_is_reference.nd rfl (by first | exact Or.inl rfl | exact Or.inr rfl)) (pgs_cons (pg_name (i := 2) sc_is_reference.nd rfl (by first | exact Or.inl rfl | exact Or.inr rfl)) pgs_nil))))
      (pss_one (ps_ret (pe_and (pe_callC c_is_name (hr.mono (by decide)) (pa_cons (pv 1) pa_nil)) (pe_one (pe_callC c_is_name (hr.mono (by decide)) (pa_cons (pv 2) pa_nil)))))))), ?_⟩
    refine ⟨_, rfl, _, _, _, _, true, rfl, ClsV.ty "tuple", TyX.base (TyOf.tup ht), kit_ty (by decide +kernel), _, rfl, iteF ?_⟩
    refine ⟨_, rfl, t, _, rfl, .inr (SqT.of ht), rfl, false, rfl, iteF ?_⟩
    refine ⟨_, rfl, t, _, rfl, SqT.of ht, rfl, _, _, rfl, _, _, rfl, rfl, ?_⟩
    refine ⟨_, rfl, r.1, rfl, n1, fun H1 e1 => ⟨true, rfl, iteT ?_⟩⟩
    exact ⟨_, rfl, r.2, rfl, n2, fun H2 e2 => q H2 (e1.trans e2)⟩
end My
namespace My
open PySem L2
def spDistinct (K : PySem.W.Frag) : Sp := fun vs H Q _ => ∃ (p : Addr) (ws : List Str), vs = [.ref p] ∧ SqL K H p (ws.map V.str) ∧ ws.length ≤ 1000 ∧ ∀ b, (b = true ↔ ws.Nodup) → Q (.bl b) H
theorem ok_are_distinct {P : Program} {w : World} {K : PySem.W.Frag} {mg : Str → Option Value} {base : Heap} {CS CP XCarryError XNoStep XNoKept XNoStops XNotSame XNotSafe XNoFlag XNoStrokes XNothingBegun XNoSchema XNoTable XNoColumn XMissing XNoKey XNoRow XTaken XNotClosed XRefused XNoText XT_MISSING_WORDS XT_COLUMN_STEPS : Addr} (T : Txt K mg CS CP XCarryError XNoStep XNoKept XNoStops XNotSame XNotSafe XNoFlag XNoStrokes XNothingBegun XNoSchema XNoTable XNoColumn XMissing XNoKey XNoRow XTaken XNotClosed XRefused XNoText XT_MISSING_WORDS XT_COLUMN_STEPS) : CallOk P w K mg base 1 "_are_distinct" (spDistinct K) := by
  refine T.d_are_distinct.ok sc_are_distinct (fun vs H Q E h => ?_) (fun f cdv A outer s H vs Q E hr h => ?_)
  · obtain ⟨p, ws, rfl, _⟩ := h
    rfl
  · obtain ⟨p, ws, rfl, hp, hl, q⟩ := h
    refine ⟨_, (pss_one (ps_ret (pe_cmpR op_eq (pe_lenSetS T.n_len T.n_set (pv 0)) (pe_callB (kLen (K := K)) (by rfl) T.n_len PySem.boot_len (pa_cons (pv 0) pa_nil)) (nomark _)))), ?_⟩
    refine ⟨_, rfl, p, ws, rfl, hp, hl, _, rfl, p, _, rfl, .inl hp, rfl, q _ ?_⟩
    rw [List.length_map, decide_eq_true_eq]
    by_cases h : ws.Nodup
    · rw [onces_nodup ws h]
      exact ⟨fun _ => h, fun _ => rfl⟩
    · have := onces_lt ws h
      refine ⟨fun e => ?_, fun e => absurd e h⟩
      have e : (((onces ws).length : Nat) : Int) = ((ws.length : Nat) : Int) := V.int.inj e
      omega
end My
namespace My
open PySem L2
def spRefs : Sp := fun vs H Q _ => ∃ v rs, vs = [v] ∧ Td H v (refsD rs) ∧ rs.length ≤ 3 ∧ (∀ r ∈ rs, Nm r.1 ∧ Nm r.2) ∧ (rs.map (·.1)).Nodup ∧ ∀ H', Same H H' → Q (.bl true) H'
theorem ok_are_references {P : Program} {w : World} {K : PySem.W.Frag} {mg : Str → Option Value} {base : Heap} {CS CP XCarryError XNoStep XNoKept XNoStops XNotSame XNotSafe XNoFlag XNoStrokes XNothingBegun XNoSchema XNoTable XNoColumn XMissing XNoKey XNoRow XTaken XNotClosed XRefused XNoText XT_MISSING_WORDS XT_COLUMN_STEPS : Addr} (T : Txt K mg CS CP XCarryError XNoStep XNoKept XNoStops XNotSame XNotSafe XNoFlag XNoStrokes XNothingBegun XNoSchema XNoTable XNoColumn XMissing XNoKey XNoRow XTaken XNotClosed XRefused XNoText XT_MISSING_WORDS XT_COLUMN_STEPS) : CallOk P w K mg base 3 "_are_references" spRefs := by
  have c_are_distinct := ok_are_distinct (P := P) (w := w) (base := base) T
  have c_is_reference := ok_is_reference (P := P) (w := w) (base := base) T
  refine T.d_are_references.ok sc_are_references (fun vs H Q E h => ?_) (fun f cdv A outer s H vs Q E hr h => ?_)
  · obtain ⟨v, rs, rfl, _⟩ := h
    rfl
  · obtain ⟨v, rs, rfl, hv, hl3, hnm, hnd, q⟩ := h
    obtain ⟨t, xs, rfl, ht, hx⟩ := hv.tup_inv
    have hlx : xs.length = rs.length := by rw [hx.length, List.length_map]
    refine ⟨_, (pss_cons (ps_if (PW.pt (pw_or (pt_not (pt_val (pe_callB (kIsi (K := K)) (by rfl) T.n_isinstance (by decide +kernel) (pa_cons (pv 0) (pa_cons (pe_bltn (v := .ty "tuple") (by rfl) T.n_tuple (by decide +kernel) rfl) pa_nil))))) (pw_or1 (pt_cmpR op_gt (pe_callB (kLen (K := K)) (by rfl) T.n_len PySem.boot_len (pa_cons (pv 0) pa_nil)) (pe_globV T.v_MOST_REFERENCES) (nomark _))))) (pss_one (ps_ret pe_bl)) pss_nil)
      (pss_cons (ps_if (pt_not (pt_val (pe_callB (kAll (K := K) rfl) (by rfl) T.n_all (by decide +kernel) (pa_cons (pe_lc (own := [("item", 1)]) rfl sc_are_references.nd (kPiT (K := K) (pv 0)) (blkOk_by (N := ["value", "item"]) (sc := defScope s_are_references) (own := [("item", 1)]) (by decide +kernel)) (fun _ _ _ _ _ => (pg_name (i := 1) sc_are_references.nd rfl (by first | exact Or.inl rfl | exact Or.inr rfl))) (fun _ _ _ _ _ => pts_nil) (fun _ _ _ _ _ => (pe_callC c_is_reference (hr.mono (by decide)) (pa_cons (pv 1) pa_nil)))) pa_nil)))) (pss_one (ps_ret pe_bl)) pss_nil)
      (pss_one (ps_ret (pe_callC c_are_distinct (hr.mono (by decide)) (pa_cons (pe_lc (own := [("item", 1)]) rfl sc_are_references.nd (kPiT (K := K) (pv 0)) (blkOk_by (N := ["value", "item"]) (sc := defScope s_are_references) (own := [("item", 1)]) (by decide +kernel)) (fun _ _ _ _ _ => (pg_name (i := 1) sc_are_references.nd rfl (by first | exact Or.inl rfl | exact Or.inr rfl))) (fun _ _ _ _ _ => pts_nil) (fun _ _ _ _ _ => (pe_ix (kIxT (K := K)) (pv 1) pe_int (fun _ _ => rfl)))) pa_nil)))))), ?_⟩
    refine ⟨_, rfl, _, _, _, _, true, rfl, ClsV.ty "tuple", TyX.base (TyOf.tup ht), kit_ty (by decide +kernel), _, rfl, iteF ?_⟩
    refine ⟨_, rfl, t, _, rfl, .inr (SqT.of ht), _, _, rfl, rfl, false, ?_, iteF ?_⟩
    · exact congrArg V.bl (decide_eq_false (show ¬ (3 : Int) < (xs.length : Int) by omega))
    refine ⟨_, rfl, t, rfl, ⟨_, SqT.of ht⟩, fun D hD => lc_tup (K := K) (a := t) (xs := xs) (fun i Hi => i ≤ xs.length ∧ Hi D = some (.lst (List.replicate i (V.bl true))) ∧ Same H Hi) ?_ ?_ ?_ ?_⟩
    · exact ⟨Nat.zero_le _, upd_same, Same.upd (Same.refl H) hD⟩
    · rintro i Hi _ ⟨_, _, e⟩
      exact SqT.of (e t _ ht)
    · rintro i x Hi hxi ⟨hi, hl, e⟩
      have hil : i < xs.length := (List.getElem?_eq_some_iff.mp hxi).1
      obtain ⟨d, hd, hTd⟩ := hx.get hxi
      rw [List.getElem?_map] at hd
      obtain ⟨r, hri, rfl⟩ := Option.map_eq_some_iff.mp hd
      have hrm := hnm r (List.mem_of_getElem? hri)
      refine ⟨rfl, tYes_if ?_⟩
      refine ⟨_, rfl, x, r, rfl, hTd.kt_same e, hrm.1, hrm.2, fun H2 e2 => ?_⟩
      refine ⟨_, e2 D _ hl, sizeLt (by rw [List.length_replicate]; omega), hil, ?_, Same.upd (e.trans e2) hD⟩
      rw [upd_same, rep_snoc]
    · rintro Hi ⟨_, hl, e⟩
      refine ⟨D, List.replicate xs.length true, rfl, SqL.of (by rw [hl, rep_bl]), _, rfl, ?_⟩
      rw [all_true]
      refine iteF ?_
      have ht' := e t _ ht
      refine ⟨_, rfl, t, rfl, ⟨_, SqT.of ht'⟩, fun D2 hD2 => lc_tup (K := K) (a := t) (xs := xs) (fun i Hj => i ≤ xs.length ∧ Hj D2 = some (.lst ((rs.map (·.1)).take i |>.map V.str)) ∧ Same Hi Hj) ?_ ?_ ?_ ?_⟩
      · exact ⟨Nat.zero_le _, upd_same, Same.upd (Same.refl Hi) hD2⟩
      · rintro i Hj _ ⟨_, _, e2⟩
        exact SqT.of (e2 t _ ht')
      · rintro i x Hj hxi ⟨hi, hl2, e2⟩
        have hil : i < xs.length := (List.getElem?_eq_some_iff.mp hxi).1
        obtain ⟨d, hd, hTd⟩ := hx.get hxi
        rw [List.getElem?_map] at hd
        obtain ⟨r, hri, rfl⟩ := Option.map_eq_some_iff.mp hd
        obtain ⟨tr, rfl, htr⟩ := refD_inv hTd
        have hrl : i < (rs.map (·.1)).length := by rw [List.length_map]; omega
        refine ⟨rfl, tYes_if ?_⟩
        refine ⟨_, rfl, tr, _, _, _, rfl, rfl, SqT.of (e2 tr _ (e tr _ htr)), rfl, ?_⟩
        refine ⟨_, hl2, sizeLt (by rw [List.length_map, List.length_take]; omega), hil, ?_, Same.upd e2 hD2⟩
        rw [upd_same, List.take_succ_eq_append_getElem hrl, List.map_append]
        have er : (rs.map (·.1))[i] = r.1 := by
          rw [List.getElem_map]
          rw [(List.getElem?_eq_some_iff.mp hri).2]
        rw [er]
        rfl
      · rintro Hj ⟨_, hl2, e2⟩
        refine ⟨D2, rs.map (·.1), rfl, SqL.of ?_, by rw [List.length_map]; omega, fun b hb => ?_⟩
        · rw [hl2, List.take_of_length_le (by rw [List.length_map]; omega)]
        · rw [hb.mpr hnd]
          exact q _ (e.trans e2)
end My
namespace My
open PySem L2
def spTable : Sp := fun vs H Q _ => ∃ v e, vs = [v] ∧ Td H v (entD e) ∧ Nm e.1 ∧ e.2.2.length ≤ 3 ∧ (∀ r ∈ e.2.2, Nm r.1 ∧ Nm r.2) ∧ (e.2.2.map (·.1)).Nodup ∧ ∀ H', Same H H' → Q (.bl true) H'
theorem ok_is_table {P : Program} {w : World} {K : PySem.W.Frag} {mg : Str → Option Value} {base : Heap} {CS CP XCarryError XNoStep XNoKept XNoStops XNotSame XNotSafe XNoFlag XNoStrokes XNothingBegun XNoSchema XNoTable XNoColumn XMissing XNoKey XNoRow XTaken XNotClosed XRefused XNoText XT_MISSING_WORDS XT_COLUMN_STEPS : Addr} (T : Txt K mg CS CP XCarryError XNoStep XNoKept XNoStops XNotSame XNotSafe XNoFlag XNoStrokes XNothingBegun XNoSchema XNoTable XNoColumn XMissing XNoKey XNoRow XTaken XNotClosed XRefused XNoText XT_MISSING_WORDS XT_COLUMN_STEPS) : CallOk P w K mg base 4 "_is_table" spTable := by
  have c_are_references := ok_are_references (P := P) (w := w) (base := base) T
  have c_is_flag := ok_is_flag (P := P) (w := w) (base := base) T
  have c_is_name := ok_is_name (P := P) (w := w) (base := base) T
  refine T.d_is_table.ok sc_is_table (fun vs H Q E h => ?_) (fun f cdv A outer s H vs Q E hr h => ?_)
  · obtain ⟨v, r, rfl, _⟩ := h
    rfl
  · obtain ⟨v, e, rfl, hv, n1, hl, hn, hd, q⟩ := h
    obtain ⟨t, tr, rs, rfl, ht, htr, hrs⟩ := entD_inv hv
    refine ⟨_, (pss_cons (ps_if (PW.pt (pw_or (pt_not (pt_val (pe_callB (kIsi (K := K)) (by rfl) T.n_isinstance (by decide +kernel) (pa_cons (pv 0) (pa_cons (pe_bltn (v := .ty "tuple") (by rfl) T.n_tuple (by decide +kernel) rfl) pa_nil))))) (pw_or1 (pt_cmpR op_ne (pe_callB (kLen (K := K)) (by rfl) T.n_len PySem.boot_len (pa_cons (pv 0) pa_nil)) pe_int (nomark _))))) (pss_one (ps_ret pe_bl)) pss_nil)
      (pss_cons (ps_asg (pv 0) (kPgT (K := K) (n := 3) rfl (pgs_cons (pg_name (i := 1) sc_is_table.nd rfl (by first | exact Or.inl rfl | exact Or.inr rfl)) (pgs_cons (pg_name (i := 2) sc_is_table.nd rfl (by first | exact Or.inl rfl | exact Or.inr rfl)) (pgs_cons (pg_name (i := 3) sc_is_table.nd rfl (by first | exact Or.inl rfl | exact Or.inr rfl)) pgs_nil)))))
      (pss_one (ps_ret (pe_and (pe_callC c_is_name (hr.mono (by decide)) (pa_cons (pv 1) pa_nil)) (pe_and (pe_callC c_is_flag (hr.mono (by decide)) (pa_cons (pv 2) pa_nil)) (pe_one (pe_callC c_are_references (hr.mono (by decide)) (pa_cons (pv 3) pa_nil))))))))), ?_⟩
    refine ⟨_, rfl, _, _, _, _, true, rfl, ClsV.ty "tuple", TyX.base (TyOf.tup ht), kit_ty (by decide +kernel), _, rfl, iteF ?_⟩
    refine ⟨_, rfl, t, _, rfl, .inr (SqT.of ht), rfl, false, rfl, iteF ?_⟩
    refine ⟨_, rfl, t, _, rfl, SqT.of ht, rfl, _, _, rfl, _, _, rfl, _, _, rfl, rfl, ?_⟩
    refine ⟨_, rfl, e.1, rfl, n1, fun H1 e1 => ⟨true, rfl, iteT ?_⟩⟩
    refine ⟨_, rfl, _, _, rfl, .bl e.2.1, true, rfl, iteT ?_⟩
    exact ⟨_, rfl, _, e.2.2, rfl, (Td.tup htr hrs).kt_same e1, hl, hn, hd, fun H2 e2 => q H2 (e1.trans e2)⟩
end My
namespace My
open PySem L2
def spAreTables : Sp := fun vs H Q _ => ∃ v pl, vs = [v] ∧ Td H v (planD pl) ∧ Good pl ∧ ∀ H', Same H H' → Q (.bl true) H'
theorem ok_are_tables {P : Program} {w : World} {K : PySem.W.Frag} {mg : Str → Option Value} {base : Heap} {CS CP XCarryError XNoStep XNoKept XNoStops XNotSame XNotSafe XNoFlag XNoStrokes XNothingBegun XNoSchema XNoTable XNoColumn XMissing XNoKey XNoRow XTaken XNotClosed XRefused XNoText XT_MISSING_WORDS XT_COLUMN_STEPS : Addr} (T : Txt K mg CS CP XCarryError XNoStep XNoKept XNoStops XNotSame XNotSafe XNoFlag XNoStrokes XNothingBegun XNoSchema XNoTable XNoColumn XMissing XNoKey XNoRow XTaken XNotClosed XRefused XNoText XT_MISSING_WORDS XT_COLUMN_STEPS) : CallOk P w K mg base 5 "are_tables" spAreTables := by
  have c_are_distinct := ok_are_distinct (P := P) (w := w) (base := base) T
  have c_is_table := ok_is_table (P := P) (w := w) (base := base) T
  refine T.d_are_tables.ok sc_are_tables (fun vs H Q E h => ?_) (fun f cdv A outer s H vs Q E hr h => ?_)
  · obtain ⟨v, pl, rfl, _⟩ := h
    rfl
  · obtain ⟨v, pl, rfl, hv, g, q⟩ := h
    obtain ⟨t, xs, rfl, ht, hx⟩ := hv.tup_inv
    have hlx : xs.length = pl.length := by rw [hx.length, List.length_map]
    have lo := g.lo
    have hi5 := g.hi
    refine ⟨_, (pss_cons (ps_if (PW.pt (pw_or (pt_not (pt_val (pe_callB (kIsi (K := K)) (by rfl) T.n_isinstance (by decide +kernel) (pa_cons (pv 0) (pa_cons (pe_bltn (v := .ty "tuple") (by rfl) T.n_tuple (by decide +kernel) rfl) pa_nil))))) (pw_or1 (pt_not (pt_chain op_le op_le pe_int (pe_callB (kLen (K := K)) (by rfl) T.n_len PySem.boot_len (pa_cons (pv 0) pa_nil)) (pe_globV T.v_MOST_TABLES)))))) (pss_one (ps_ret pe_bl)) pss_nil)
      (pss_cons (ps_if (pt_not (pt_val (pe_callB (kAll (K := K) rfl) (by rfl) T.n_all (by decide +kernel) (pa_cons (pe_lc (own := [("item", 1)]) rfl sc_are_tables.nd (kPiT (K := K) (pv 0)) (blkOk_by (N := ["value", "item"]) (sc := defScope s_are_tables) (own := [("item", 1)]) (by decide +kernel)) (fun _ _ _ _ _ => (pg_name (i := 1) sc_are_tables.nd rfl (by first | exact Or.inl rfl | exact Or.inr rfl))) (fun _ _ _ _ _ => pts_nil) (fun _ _ _ _ _ => (pe_callC c_is_table (hr.mono (by decide)) (pa_cons (pv 1) pa_nil)))) pa_nil)))) (pss_one (ps_ret pe_bl)) pss_nil)
      (pss_one (ps_ret (pe_callC c_are_distinct (hr.mono (by decide)) (pa_cons (pe_lc (own := [("item", 1)]) rfl sc_are_tables.nd (kPiT (K := K) (pv 0)) (blkOk_by (N := ["value", "item"]) (sc := defScope s_are_tables) (own := [("item", 1)]) (by decide +kernel)) (fun _ _ _ _ _ => (pg_name (i := 1) sc_are_tables.nd rfl (by first | exact Or.inl rfl | exact Or.inr rfl))) (fun _ _ _ _ _ => pts_nil) (fun _ _ _ _ _ => (pe_ix (kIxT (K := K)) (pv 1) pe_int (fun _ _ => rfl)))) pa_nil)))))), ?_⟩
    refine ⟨_, rfl, _, _, _, _, true, rfl, ClsV.ty "tuple", TyX.base (TyOf.tup ht), kit_ty (by decide +kernel), _, rfl, iteF ?_⟩
    refine ⟨_, rfl, t, _, rfl, .inr (SqT.of ht), _, _, rfl, rfl, true, ?_, iteT ⟨_, _, rfl, rfl, true, ?_, iteF ?_⟩⟩
    · exact congrArg V.bl (decide_eq_true (show (1 : Int) ≤ (xs.length : Int) by omega))
    · exact congrArg V.bl (decide_eq_true (show (xs.length : Int) ≤ 5 by omega))
    refine ⟨_, rfl, t, rfl, ⟨_, SqT.of ht⟩, fun D hD => lc_tup (K := K) (a := t) (xs := xs) (fun i Hi => i ≤ xs.length ∧ Hi D = some (.lst (List.replicate i (V.bl true))) ∧ Same H Hi) ?_ ?_ ?_ ?_⟩
    · exact ⟨Nat.zero_le _, upd_same, Same.upd (Same.refl H) hD⟩
    · rintro i Hi _ ⟨_, _, e⟩
      exact SqT.of (e t _ ht)
    · rintro i x Hi hxi ⟨hi, hl, e⟩
      have hil : i < xs.length := (List.getElem?_eq_some_iff.mp hxi).1
      obtain ⟨en, hen, hTd⟩ := hx.getM hxi
      have hem := List.mem_of_getElem? hen
      have gr := g.refs en hem
      refine ⟨rfl, tYes_if ?_⟩
      refine ⟨_, rfl, x, en, rfl, hTd.kt_same e, g.nm en hem, gr.len, fun r hr => ⟨gr.nm r hr, g.toNm hem hr⟩, gr.nd, fun H2 e2 => ?_⟩
      refine ⟨_, e2 D _ hl, sizeLt (by rw [List.length_replicate]; omega), hil, ?_, Same.upd (e.trans e2) hD⟩
      rw [upd_same, rep_snoc]
    · rintro Hi ⟨_, hl, e⟩
      refine ⟨D, List.replicate xs.length true, rfl, SqL.of (by rw [hl, rep_bl]), _, rfl, ?_⟩
      rw [all_true]
      refine iteF ?_
      have ht' := e t _ ht
      refine ⟨_, rfl, t, rfl, ⟨_, SqT.of ht'⟩, fun D2 hD2 => lc_tup (K := K) (a := t) (xs := xs) (fun i Hj => i ≤ xs.length ∧ Hj D2 = some (.lst ((pl.map (·.1)).take i |>.map V.str)) ∧ Same Hi Hj) ?_ ?_ ?_ ?_⟩
      · exact ⟨Nat.zero_le _, upd_same, Same.upd (Same.refl Hi) hD2⟩
      · rintro i Hj _ ⟨_, _, e2⟩
        exact SqT.of (e2 t _ ht')
      · rintro i x Hj hxi ⟨hi, hl2, e2⟩
        have hil : i < xs.length := (List.getElem?_eq_some_iff.mp hxi).1
        obtain ⟨en, hen, hTd⟩ := hx.getM hxi
        obtain ⟨tn, tr, rs, rfl, htn, htr, hrs⟩ := entD_inv hTd
        have hrl : i < (pl.map (·.1)).length := by rw [List.length_map]; omega
        refine ⟨rfl, tYes_if ?_⟩
        refine ⟨_, rfl, tn, _, _, _, rfl, rfl, SqT.of (e2 tn _ (e tn _ htn)), rfl, ?_⟩
        refine ⟨_, hl2, sizeLt (by rw [List.length_map, List.length_take]; omega), hil, ?_, Same.upd e2 hD2⟩
        rw [upd_same, List.take_succ_eq_append_getElem hrl, List.map_append]
        have er : (pl.map (·.1))[i] = en.1 := by
          rw [List.getElem_map]
          rw [(List.getElem?_eq_some_iff.mp hen).2]
        rw [er]
        rfl
      · rintro Hj ⟨_, hl2, e2⟩
        refine ⟨D2, pl.map (·.1), rfl, SqL.of ?_, by rw [List.length_map]; omega, fun b hb => ?_⟩
        · rw [hl2, List.take_of_length_le (by rw [List.length_map]; omega)]
        · rw [hb.mpr g.nd]
          exact q _ (e.trans e2)
end My
namespace My
open PySem L2
def spWithin : Sp := fun vs H Q _ => ∃ v pl, vs = [v] ∧ Td H v (planD pl) ∧ Good pl ∧ ∀ H', Same H H' → Q (.bl true) H'
theorem ok_refer_within {P : Program} {w : World} {K : PySem.W.Frag} {mg : Str → Option Value} {base : Heap} {CS CP XCarryError XNoStep XNoKept XNoStops XNotSame XNotSafe XNoFlag XNoStrokes XNothingBegun XNoSchema XNoTable XNoColumn XMissing XNoKey XNoRow XTaken XNotClosed XRefused XNoText XT_MISSING_WORDS XT_COLUMN_STEPS : Addr} (T : Txt K mg CS CP XCarryError XNoStep XNoKept XNoStops XNotSame XNotSafe XNoFlag XNoStrokes XNothingBegun XNoSchema XNoTable XNoColumn XMissing XNoKey XNoRow XTaken XNotClosed XRefused XNoText XT_MISSING_WORDS XT_COLUMN_STEPS) : CallOk P w K mg base 1 "refer_within" spWithin := by
  refine T.d_refer_within.ok sc_refer_within (fun vs H Q E h => ?_) (fun f cdv A outer s H vs Q E hr h => ?_)
  · obtain ⟨v, pl, rfl, _⟩ := h
    rfl
  · obtain ⟨v, pl, rfl, hv, g, q⟩ := h
    obtain ⟨t, xs, rfl, ht, hx⟩ := hv.tup_inv
    have hlx : xs.length = pl.length := by rw [hx.length, List.length_map]
    have hi5 := g.hi
    refine ⟨_, (pss_cons (ps_set (i := 1) sc_refer_within.nd rfl (by first | exact Or.inl rfl | exact Or.inr rfl) (pe_lc (own := [("item", 2)]) rfl sc_refer_within.nd (kPiT (K := K) (pv 0)) (blkOk_by (N := ["tables", "names", "item", "_", "target"]) (sc := defScope s_refer_within) (own := [("item", 2)]) (by decide +kernel)) (fun _ _ _ _ _ => (pg_name (i := 2) sc_refer_within.nd rfl (by first | exact Or.inl rfl | exact Or.inr rfl))) (fun _ _ _ _ _ => pts_nil) (fun _ _ _ _ _ => (pe_ix (kIxT (K := K)) (pv 2) pe_int (fun _ _ => rfl)))))
      (pss_one (ps_ret (pe_callB (kAll (K := K) rfl) (by rfl) T.n_all (by decide +kernel) (pa_cons (pe_lc2 (own := [("item", 2), ("_", 3), ("target", 4)]) (vs1 := [3, 4]) rfl sc_refer_within.nd (kPiT (K := K) (pv 0)) (blkOk_by (N := ["tables", "names", "item", "_", "target"]) (sc := defScope s_refer_within) (own := [("item", 2), ("_", 3), ("target", 4)]) (by decide +kernel)) (by decide) (fun _ _ _ _ _ => (pg_name (i := 2) sc_refer_within.nd rfl (by first | exact Or.inl rfl | exact Or.inr rfl))) (fun _ _ _ _ _ => pts_nil) (fun _ _ _ _ _ => (kPiT (K := K) (pe_ix (kIxT (K := K)) (pv 2) pe_int (fun _ _ => rfl)))) (fun _ _ _ _ _ => (kPgT (K := K) (n := 2) rfl (pgs_cons (pg_name (i := 3) sc_refer_within.nd rfl (by first | exact Or.inl rfl | exact Or.inr rfl)) (pgs_cons (pg_name (i := 4) sc_refer_within.nd rfl (by first | exact Or.inl rfl | exact Or.inr rfl)) pgs_nil)))) (fun _ _ _ _ _ => pts_nil) (fun _ _ _ _ _ => (pe_cmpR (kIn (K := K)) (pv 4) (pv 1) rfl))) pa_nil))))), ?_⟩
    refine ⟨_, rfl, t, rfl, ⟨_, SqT.of ht⟩, fun N0 hN0 => lc_tup (K := K) (a := t) (xs := xs) (fun i Hj => i ≤ xs.length ∧ Hj N0 = some (.lst ((pl.map (·.1)).take i |>.map V.str)) ∧ Same H Hj) ?_ ?_ ?_ ?_⟩
    · exact ⟨Nat.zero_le _, upd_same, Same.upd (Same.refl H) hN0⟩
    · rintro i Hj _ ⟨_, _, e2⟩
      exact SqT.of (e2 t _ ht)
    · rintro i x Hj hxi ⟨hi, hl2, e2⟩
      have hil : i < xs.length := (List.getElem?_eq_some_iff.mp hxi).1
      obtain ⟨en, hen, hTd⟩ := hx.getM hxi
      obtain ⟨tn, tr, rs, rfl, htn, htr, hrs⟩ := entD_inv hTd
      have hrl : i < (pl.map (·.1)).length := by rw [List.length_map]; omega
      refine ⟨rfl, tYes_if ?_⟩
      refine ⟨_, rfl, tn, _, _, _, rfl, rfl, SqT.of (e2 tn _ htn), rfl, ?_⟩
      refine ⟨_, hl2, sizeLt (by rw [List.length_map, List.length_take]; omega), hil, ?_, Same.upd e2 hN0⟩
      rw [upd_same, List.take_succ_eq_append_getElem hrl, List.map_append]
      have er : (pl.map (·.1))[i] = en.1 := by
        rw [List.getElem_map]
        rw [(List.getElem?_eq_some_iff.mp hen).2]
      rw [er]
      rfl
    · rintro Hi ⟨_, hN, e⟩
      rw [List.take_of_length_le (by rw [List.length_map]; omega)] at hN
      have ht' := e t _ ht
      refine ⟨_, rfl, t, rfl, ⟨_, SqT.of ht'⟩, fun D hD => lc2_tup (K := K) (a := t) (xs := xs) (fun i Hj => i ≤ xs.length ∧ ∃ n, n ≤ 3 * i ∧ Hj D = some (.lst (List.replicate n (V.bl true))) ∧ Same Hi Hj) ?_ ?_ ?_ ?_⟩
      · exact ⟨Nat.zero_le _, 0, Nat.zero_le _, upd_same, Same.upd (Same.refl Hi) hD⟩
      · rintro i Hj _ ⟨_, _, _, _, e2⟩
        exact SqT.of (e2 t _ ht')
      · rintro i x Hj hxi ⟨hi, n, hn, hl, e2⟩
        have hil : i < xs.length := (List.getElem?_eq_some_iff.mp hxi).1
        obtain ⟨en, hen, hTd⟩ := hx.getM hxi
        have hem := List.mem_of_getElem? hen
        have gr := g.refs en hem
        obtain ⟨tn, tr, rs, rfl, htn, htr, hrs⟩ := entD_inv hTd
        have hlr : rs.length = en.2.2.length := by rw [hrs.length, List.length_map]
        have g3 := gr.len
        have e3 := e.trans e2
        refine ⟨rfl, tYes_if ?_⟩
        refine ⟨_, rfl, tn, _, _, _, rfl, rfl, SqT.of (e3 tn _ htn), rfl, tr, rfl, ⟨_, SqT.of (e3 tr _ htr)⟩, ?_⟩
        refine in2_tup (K := K) (a := tr) (xs := rs) (fun j Hk => j ≤ rs.length ∧ Hk D = some (.lst (List.replicate (n + j) (V.bl true))) ∧ Same Hi Hk) ?_ ?_ ?_ ?_
        · exact ⟨Nat.zero_le _, hl, e2⟩
        · rintro j Hk _ ⟨_, _, e4⟩
          exact SqT.of (e4 tr _ (e tr _ htr))
        · rintro j y Hk hyj ⟨hj, hl4, e4⟩
          have hjl : j < rs.length := (List.getElem?_eq_some_iff.mp hyj).1
          obtain ⟨r, hr, hTr⟩ := hrs.getM hyj
          have hrm := List.mem_of_getElem? hr
          obtain ⟨tt, rfl, htt⟩ := refD_inv hTr
          refine ⟨tt, _, rfl, SqT.of (e4 tt _ (e tt _ htt)), rfl, _, _, rfl, _, _, rfl, rfl, rfl, tYes_if ?_⟩
          refine ⟨_, rfl, _, rfl, N0, _, rfl, .inl (SqL.of (e4 N0 _ hN)), rfl, flat_strs _, ?_⟩
          refine ⟨_, hl4, sizeLt (by rw [List.length_replicate]; omega), hjl, ?_, Same.upd e4 hD⟩
          have ev : inV (.str r.2) ((pl.map (·.1)).map V.str) = true := by
            rw [inV_strs]
            exact decide_eq_true (gr.to r hrm)
          have ev' : V.bl (if false = true then !inV (V.str r.2) ((pl.map (·.1)).map V.str) else inV (V.str r.2) ((pl.map (·.1)).map V.str)) = V.bl true := by
            rw [if_neg Bool.false_ne_true, ev]
          rw [upd_same]
          exact congrArg (fun z => some (HO.lst z)) (by rw [ev', rep_snoc, Nat.add_assoc])
        · rintro Hk ⟨hj, hl4, e4⟩
          exact ⟨hil, n + rs.length, by omega, hl4, e4⟩
      · rintro Hj ⟨_, n, hn, hl, e2⟩
        refine ⟨D, List.replicate n true, rfl, SqL.of (by rw [hl, rep_bl]), ?_⟩
        rw [all_true]
        exact q _ (e.trans e2)
end My
namespace My
open PySem L2
def spSchema (CS : Addr) : Sp := fun vs H Q _ => ∃ (p dx : Addr) (v : V) (pl : Plan), vs = [.ref p, v] ∧ Td H v (planD pl) ∧ Good pl ∧ H p = some (.ins CS dx []) ∧ ∀ H' de, SchE CS H' p pl de → H de = none → Fr1 p H H' → Q .non H'
theorem body_Schema_init {P : Program} {w : World} {K : PySem.W.Frag} {mg : Str → Option Value} {base : Heap} {CS CP XCarryError XNoStep XNoKept XNoStops XNotSame XNotSafe XNoFlag XNoStrokes XNothingBegun XNoSchema XNoTable XNoColumn XMissing XNoKey XNoRow XTaken XNotClosed XRefused XNoText XT_MISSING_WORDS XT_COLUMN_STEPS : Addr} (T : Txt K mg CS CP XCarryError XNoStep XNoKept XNoStops XNotSame XNotSafe XNoFlag XNoStrokes XNothingBegun XNoSchema XNoTable XNoColumn XMissing XNoKey XNoRow XTaken XNotClosed XRefused XNoText XT_MISSING_WORDS XT_COLUMN_STEPS) : BodyOk P w K mg base 5 ["self", "tables", "entry"] "Schema.__init__" s_Schema_init (spSchema CS) := by
  have c_are_tables := ok_are_tables (P := P) (w := w) (base := base) T
  have c_refer_within := ok_refer_within (P := P) (w := w) (base := base) T
  intro f cdv A outer s H vs Q E hr h
  · obtain ⟨p, dx, v, pl, rfl, hv, g, hp, q⟩ := h
    refine ⟨_, (pss_cons (ps_if (pt_not (pt_val (pe_callC c_are_tables (hr.mono (by decide)) (pa_cons (pv 1) pa_nil)))) (pss_one ps_never) pss_nil)
      (pss_cons (ps_if (pt_not (pt_val (pe_callC c_refer_within (hr.mono (by decide)) (pa_cons (pv 1) pa_nil)))) (pss_one ps_never) pss_nil)
      (pss_cons (ps_fld (pv 0) (pv 1) rfl)
      (pss_one (ps_fld (pv 0) (pe_dc (own := [("entry", 2)]) rfl sc_Schema_init.nd (kPiT (K := K) (pv 1)) (blkOk_by (N := ["self", "tables", "entry"]) (sc := defScope s_Schema_init) (own := [("entry", 2)]) (by decide +kernel)) (fun _ _ _ _ _ => (pg_name (i := 2) sc_Schema_init.nd rfl (by first | exact Or.inl rfl | exact Or.inr rfl))) (fun _ _ _ _ _ => pts_nil) (fun _ _ _ _ _ => (pe_ix (kIxT (K := K)) (pv 2) pe_int (fun _ _ => rfl))) (fun _ _ _ _ _ => (pv 2))) rfl))))), ?_⟩
    refine ⟨_, rfl, v, pl, rfl, hv, g, fun H1 e1 => ⟨true, rfl, iteF ?_⟩⟩
    refine ⟨_, rfl, v, pl, rfl, hv.kt_same e1, g, fun H2 e2 => ⟨true, rfl, iteF ?_⟩⟩
    have e12 := e1.trans e2
    have hp2 := e12 p _ hp
    have hv2 := hv.kt_same e12
    refine ⟨_, rfl, _, rfl, p, CS, dx, [], rfl, hp2, T.c_Schema.cl, T.a_Schema_tables, (by show 0 < 1000; decide), ?_⟩
    have kt3 : KT H2 (upd H2 p (.ins CS dx (putF "_tables" v []))) := fun c xs hc => by
      rw [upd_ne (ne_of hc hp2 (by intro z; cases z))]
      exact hc
    obtain ⟨t, xs, rfl, ht, hx⟩ := hv2.tup_inv
    have hlx : xs.length = pl.length := by rw [hx.length, List.length_map]
    have hi5 := g.hi
    have ht3 := kt3 t _ ht
    generalize hH3 : upd H2 p (.ins CS dx (putF "_tables" (V.ref t) [])) = H3 at *
    have hp3 : H3 p = some (.ins CS dx (putF "_tables" (V.ref t) [])) := by rw [← hH3, upd_same]
    have hx3 := hx.mono kt3
    refine ⟨_, rfl, t, rfl, ⟨_, SqT.of ht3⟩, fun D hD => dc_tup (K := K) (a := t) (xs := xs) (fun i Hi => i ≤ xs.length ∧ ∃ kvs, Hi D = some (.dK kvs) ∧ EntsAt Hi kvs (pl.take i) ∧ Same H3 Hi) ?_ ?_ ?_ ?_⟩
    · exact ⟨Nat.zero_le _, [], upd_same, ⟨rfl, .nil⟩, Same.upd (Same.refl H3) hD⟩
    · rintro i Hi _ ⟨_, _, _, _, e⟩
      exact SqT.of (e t _ ht3)
    · rintro i x Hi hxi ⟨hi, kvs, hl, he, e⟩
      have hil : i < xs.length := (List.getElem?_eq_some_iff.mp hxi).1
      have hip : i < pl.length := by omega
      obtain ⟨en, hen, hTd⟩ := hx3.getM hxi
      have hen2 : pl[i] = en := (List.getElem?_eq_some_iff.mp hen).2
      obtain ⟨tn, tr, rs, rfl, htn, htr, hrs⟩ := entD_inv hTd
      refine ⟨rfl, tYes_if ?_⟩
      refine ⟨_, rfl, tn, _, _, _, rfl, rfl, SqT.of (e tn _ htn), rfl, _, rfl, kvs, Sum.inr en.1, rfl, hl, ?_, hil, _, upd_same, ?_, Same.upd e hD⟩
      · have hkl : kvs.length = (pl.take i).length := by
          have := congrArg List.length he.keys
          rwa [List.length_map, List.length_map] at this
        rw [List.length_take] at hkl
        exact sizeLt (by omega)
      · have hno : valV kvs (Sum.inr en.1 : Key) = none := by
          refine valV_no he.keys fun hm => ?_
          have nd := g.nd
          obtain ⟨e2, he2, ee⟩ := List.mem_map.mp hm
          obtain ⟨j, hj, ej⟩ := List.getElem_of_mem he2
          rw [List.getElem_take] at ej
          have hji : j < i := by
            rw [List.length_take] at hj
            omega
          have hji2 : j < pl.length := by omega
          have a1 : (pl.map (·.1))[j]'(by rw [List.length_map]; omega) = (pl.map (·.1))[i]'(by rw [List.length_map]; omega) := by
            rw [List.getElem_map, List.getElem_map, hen2, ej, ee]
          have := (List.getElem_inj nd).mp a1
          omega
        rw [putK_new _ hno]
        have ktD : KT Hi (upd Hi D (.dK (kvs ++ [(Sum.inr en.1, V.ref tn)]))) := fun c ys hc => by
          rw [upd_ne (ne_of hc hl (by intro z; cases z))]
          exact hc
        refine ⟨?_, ?_⟩
        · rw [List.take_succ_eq_append_getElem hip, List.map_append, List.map_append, he.keys, hen2]
          rfl
        · rw [List.take_succ_eq_append_getElem hip, List.map_append, List.map_append, hen2]
          exact (he.vals.mono ktD).append (.cons ((hTd.kt_same e).mono ktD) .nil)
    · rintro Hi ⟨_, kvs, hl, he, e⟩
      rw [List.take_of_length_le (by omega)] at he
      have hpi := e p _ hp3
      refine ⟨_, rfl, p, CS, dx, _, rfl, hpi, T.c_Schema.cl, T.a_Schema_entries, (by show 1 < 1000; decide), ?_⟩
      have ktp : KT Hi (upd Hi p (.ins CS dx (putF "_entries" (V.ref D) (putF "_tables" (V.ref t) [])))) := fun c ys hc => by
        rw [upd_ne (ne_of hc hpi (by intro z; cases z))]
        exact hc
      have nDp : D ≠ p := ne_of hl hpi (by intro z; cases z)
      refine q _ D ⟨g, dx, .ref t, kvs, upd_same, ((Td.tup ht3 hx3).kt_same e).mono ktp, by rw [upd_ne nDp]; exact hl, he.keys, he.vals.mono ktp⟩ ?_ ?_
      · cases c : H D with
        | none => rfl
        | some o =>
          have c2 := e12 D o c
          have c3 : H3 D = some o := by rw [← hH3, upd_ne nDp]; exact c2
          rw [hD] at c3
          cases c3
      intro c o nc hc
      rw [upd_ne nc]
      refine e c o ?_
      rw [← hH3, upd_ne nc]
      exact e12 c o hc
theorem len_Schema_init {CS : Addr} : ∀ vs H Q E, spSchema CS vs H Q E → vs.length = ["self", "tables"].length := by
  rintro vs H Q E ⟨p, dx, v, pl, rfl, _⟩
  rfl
theorem ok_Schema_init {P : Program} {w : World} {K : PySem.W.Frag} {mg : Str → Option Value} {base : Heap} {CS CP XCarryError XNoStep XNoKept XNoStops XNotSame XNotSafe XNoFlag XNoStrokes XNothingBegun XNoSchema XNoTable XNoColumn XMissing XNoKey XNoRow XTaken XNotClosed XRefused XNoText XT_MISSING_WORDS XT_COLUMN_STEPS : Addr} (T : Txt K mg CS CP XCarryError XNoStep XNoKept XNoStops XNotSame XNotSafe XNoFlag XNoStrokes XNothingBegun XNoSchema XNoTable XNoColumn XMissing XNoKey XNoRow XTaken XNotClosed XRefused XNoText XT_MISSING_WORDS XT_COLUMN_STEPS) : MakeOk P w K mg base 6 CS "Schema" (spSchema CS) := T.d_Schema_init.make T.c_Schema sc_Schema_init len_Schema_init (body_Schema_init T)
theorem kw_Schema_init {P : Program} {w : World} {K : PySem.W.Frag} {mg : Str → Option Value} {base : Heap} {CS CP XCarryError XNoStep XNoKept XNoStops XNotSame XNotSafe XNoFlag XNoStrokes XNothingBegun XNoSchema XNoTable XNoColumn XMissing XNoKey XNoRow XTaken XNotClosed XRefused XNoText XT_MISSING_WORDS XT_COLUMN_STEPS : Addr} (T : Txt K mg CS CP XCarryError XNoStep XNoKept XNoStops XNotSame XNotSafe XNoFlag XNoStrokes XNothingBegun XNoSchema XNoTable XNoColumn XMissing XNoKey XNoRow XTaken XNotClosed XRefused XNoText XT_MISSING_WORDS XT_COLUMN_STEPS) : MakeKOk P w K mg base 6 CS "Schema" 0 ["tables"] (fun vs zs => vs ++ zs) (spSchema CS) :=
  T.d_Schema_init.makeK T.c_Schema sc_Schema_init len_Schema_init (body_Schema_init T) (fun us ws => us ++ ws) (fun r1 r2 => r1.append r2) fun _ _ _ _ _ _ us ws h1 h2 => match us, ws, h1, h2 with | [_], [_], _, _ => rfl
end My
namespace My
open PySem L2
def spSTables (CS : Addr) : Sp := fun vs H Q _ => ∃ (p : Addr) (pl : Plan), vs = [.ref p] ∧ SchAt CS H p pl ∧ ∀ v, Td H v (planD pl) → Q v H
theorem ok_Schema_tables {P : Program} {w : World} {K : PySem.W.Frag} {mg : Str → Option Value} {base : Heap} {CS CP XCarryError XNoStep XNoKept XNoStops XNotSame XNotSafe XNoFlag XNoStrokes XNothingBegun XNoSchema XNoTable XNoColumn XMissing XNoKey XNoRow XTaken XNotClosed XRefused XNoText XT_MISSING_WORDS XT_COLUMN_STEPS : Addr} (T : Txt K mg CS CP XCarryError XNoStep XNoKept XNoStops XNotSame XNotSafe XNoFlag XNoStrokes XNothingBegun XNoSchema XNoTable XNoColumn XMissing XNoKey XNoRow XTaken XNotClosed XRefused XNoText XT_MISSING_WORDS XT_COLUMN_STEPS) : MethOk P w K mg base 1 CS "tables" (spSTables CS) := by
  refine T.d_Schema_tables.ok T.c_Schema.cl sc_Schema_tables (fun vs H Q E h => ?_) (fun f cdv A outer s H vs Q E hr h => ?_)
  · obtain ⟨p, pl, rfl, _⟩ := h
    rfl
  · obtain ⟨p, pl, rfl, S, q⟩ := h
    obtain ⟨dx, tv, de, kvs, h1, h2, h3, h4⟩ := S.ex
    refine ⟨_, (pss_one (ps_ret (kFld (K := K) (pv 0) rfl))), ?_⟩
    exact ⟨_, rfl, p, CS, dx, _, _, rfl, h1, T.c_Schema.cl, T.a_Schema_tables, sFlds_t _ _, q _ h2⟩
end My
namespace My
open PySem L2
def colPairs (pl : Plan) : List Ref := pl.flatMap fun e => e.2.2.map fun r => (e.1, r.1)
theorem colPairs_snoc (pl : Plan) (e : Ent) : colPairs (pl ++ [e]) = colPairs pl ++ e.2.2.map fun r => (e.1, r.1) := by
  unfold colPairs
  rw [List.flatMap_append]
  simp
def spAllCols (CS : Addr) : Sp := fun vs H Q _ => ∃ (p : Addr) (pl : Plan), vs = [.ref p] ∧ SchAt CS H p pl ∧ ∀ D H' acc, H D = none → H' D = some (.lst acc) → TdAll H' acc ((colPairs pl).map refD) → acc.length ≤ 15 → Same H H' → Q (.ref D) H'
theorem ok_Schema_all_columns {P : Program} {w : World} {K : PySem.W.Frag} {mg : Str → Option Value} {base : Heap} {CS CP XCarryError XNoStep XNoKept XNoStops XNotSame XNotSafe XNoFlag XNoStrokes XNothingBegun XNoSchema XNoTable XNoColumn XMissing XNoKey XNoRow XTaken XNotClosed XRefused XNoText XT_MISSING_WORDS XT_COLUMN_STEPS : Addr} (T : Txt K mg CS CP XCarryError XNoStep XNoKept XNoStops XNotSame XNotSafe XNoFlag XNoStrokes XNothingBegun XNoSchema XNoTable XNoColumn XMissing XNoKey XNoRow XTaken XNotClosed XRefused XNoText XT_MISSING_WORDS XT_COLUMN_STEPS) : MethOk P w K mg base 1 CS "all_columns" (spAllCols CS) := by
  refine T.d_Schema_all_columns.ok T.c_Schema.cl sc_Schema_all_columns (fun vs H Q E h => ?_) (fun f cdv A outer s H vs Q E hr h => ?_)
  · obtain ⟨p, pl, rfl, _⟩ := h
    rfl
  · obtain ⟨p, pl, rfl, S, q⟩ := h
    obtain ⟨dx, tv, de, kvs, h1, h2, h3, h4⟩ := S.ex
    have hi5 := S.good.hi
    refine ⟨_, (pss_one (ps_ret (pe_lc2 (own := [("entry", 1), ("column", 2), ("_", 3)]) (vs1 := [2, 3]) rfl sc_Schema_all_columns.nd (kPiT (K := K) (kFld (K := K) (pv 0) rfl)) (blkOk_by (N := ["self", "entry", "column", "_"]) (sc := defScope s_Schema_all_columns) (own := [("entry", 1), ("column", 2), ("_", 3)]) (by decide +kernel)) (by decide) (fun _ _ _ _ _ => (pg_name (i := 1) sc_Schema_all_columns.nd rfl (by first | exact Or.inl rfl | exact Or.inr rfl))) (fun _ _ _ _ _ => pts_nil) (fun _ _ _ _ _ => (kPiT (K := K) (pe_ix (kIxT (K := K)) (pv 1) pe_int (fun _ _ => rfl)))) (fun _ _ _ _ _ => (kPgT (K := K) (n := 2) rfl (pgs_cons (pg_name (i := 2) sc_Schema_all_columns.nd rfl (by first | exact Or.inl rfl | exact Or.inr rfl)) (pgs_cons (pg_name (i := 3) sc_Schema_all_columns.nd rfl (by first | exact Or.inl rfl | exact Or.inr rfl)) pgs_nil)))) (fun _ _ _ _ _ => pts_nil) (fun _ _ _ _ _ => (pe_tup (pa_cons (pe_ix (kIxT (K := K)) (pv 1) pe_int (fun _ _ => rfl)) (pa_cons (pv 2) pa_nil))))))), ?_⟩
    obtain ⟨t, xs, rfl, ht, hx⟩ := h2.tup_inv
    have hlx : xs.length = pl.length := by rw [hx.length, List.length_map]
    refine ⟨_, rfl, p, CS, dx, _, _, rfl, h1, T.c_Schema.cl, T.a_Schema_tables, sFlds_t _ _, t, rfl, ⟨_, SqT.of ht⟩, fun D hD => lc2_tup (K := K) (a := t) (xs := xs) (fun i Hj => i ≤ xs.length ∧ ∃ acc, acc.length ≤ 3 * i ∧ Hj D = some (HO.lst acc) ∧ TdAll Hj acc ((colPairs (pl.take i)).map refD) ∧ Same H Hj) ?_ ?_ ?_ ?_⟩
    · exact ⟨Nat.zero_le _, [], Nat.zero_le _, upd_same, .nil, Same.upd (Same.refl H) hD⟩
    · rintro i Hj _ ⟨_, _, _, _, _, e2⟩
      exact SqT.of (e2 t _ ht)
    · rintro i x Hj hxi ⟨hi, acc, hal, hl, hT, e2⟩
      have hil : i < xs.length := (List.getElem?_eq_some_iff.mp hxi).1
      have hip : i < pl.length := by omega
      obtain ⟨en, hen, hTd⟩ := hx.getM hxi
      have hen2 : pl[i] = en := (List.getElem?_eq_some_iff.mp hen).2
      have gr := S.good.refs en (List.mem_of_getElem? hen)
      have g3 := gr.len
      obtain ⟨tn, tr, rs, rfl, htn, htr, hrs⟩ := entD_inv hTd
      have hlr : rs.length = en.2.2.length := by rw [hrs.length, List.length_map]
      refine ⟨rfl, tYes_if ?_⟩
      refine ⟨_, rfl, tn, _, _, _, rfl, rfl, SqT.of (e2 tn _ htn), rfl, tr, rfl, ⟨_, SqT.of (e2 tr _ htr)⟩, ?_⟩
      refine in2_tup (K := K) (a := tr) (xs := rs) (fun j Hk => j ≤ rs.length ∧ ∃ ac2, ac2.length = acc.length + j ∧ Hk D = some (.lst ac2) ∧ TdAll Hk ac2 ((colPairs (pl.take i) ++ (en.2.2.take j).map fun r => (en.1, r.1)).map refD) ∧ Same H Hk) ?_ ?_ ?_ ?_
      · exact ⟨Nat.zero_le _, acc, rfl, hl, by simpa using hT, e2⟩
      · rintro j Hk _ ⟨_, _, _, _, _, e4⟩
        exact SqT.of (e4 tr _ htr)
      · rintro j y Hk hyj ⟨hj, ac2, hal2, hl2, hT2, e4⟩
        have hjl : j < rs.length := (List.getElem?_eq_some_iff.mp hyj).1
        have hje : j < en.2.2.length := by omega
        obtain ⟨r, hr0, hTr⟩ := hrs.getM hyj
        have hr2 : en.2.2[j] = r := (List.getElem?_eq_some_iff.mp hr0).2
        obtain ⟨tt, rfl, htt⟩ := refD_inv hTr
        refine ⟨tt, _, rfl, SqT.of (e4 tt _ htt), rfl, _, _, rfl, _, _, rfl, rfl, rfl, tYes_if ?_⟩
        refine ⟨_, rfl, tn, _, _, _, rfl, rfl, SqT.of (e4 tn _ htn), rfl, _, rfl, sizeL (by show 2 ≤ 100000; decide), fun tp htp => ?_⟩
        have nDt : D ≠ tp := ne_of_none hl2 htp
        have hD3 : upd Hk tp (.tup [V.str en.1, V.str r.1]) D = some (.lst ac2) := by rw [upd_ne nDt]; exact hl2
        have kt : KT Hk (upd (upd Hk tp (.tup [V.str en.1, V.str r.1])) D (.lst (ac2 ++ [.ref tp]))) := (KT.of (Same.upd (Same.refl Hk) htp)).updL hD3
        refine ⟨ac2, hD3, sizeLt (by omega), hjl, ac2 ++ [.ref tp], by simp [hal2]; omega, upd_same, ?_, fun c o hc => ?_⟩
        · have em : (en.2.2.take (j + 1)).map (fun r : Ref => ((en.1, r.1) : Ref)) = (en.2.2.take j).map (fun r : Ref => ((en.1, r.1) : Ref)) ++ [(en.1, r.1)] := by
            rw [List.take_succ_eq_append_getElem hje, List.map_append, hr2]
            rfl
          rw [em, ← List.append_assoc, List.map_append]
          refine (hT2.mono kt).append (.cons (.tup (xs := [V.str en.1, V.str r.1]) ?_ (.cons (.str _) (.cons (.str _) .nil))) .nil)
          rw [upd_ne nDt.symm, upd_same]
        · rw [upd_ne (ne_of_none hc hD), upd_ne (ne_of_none (e4 c o hc) htp)]
          exact e4 c o hc
      · rintro Hk ⟨hj, ac2, hal2, hl2, hT2, e4⟩
        refine ⟨hil, ac2, by omega, hl2, ?_, e4⟩
        rw [List.take_succ_eq_append_getElem hip, colPairs_snoc, hen2]
        rw [List.take_of_length_le (show en.2.2.length ≤ rs.length by omega)] at hT2
        exact hT2
    · rintro Hj ⟨_, acc, hal, hl, hT, e2⟩
      rw [List.take_of_length_le (by omega)] at hT
      exact q D Hj acc hD hl hT (by omega) e2
end My
namespace My
open PySem L2
def spIsLoad (CS : Addr) : Sp := fun vs H Q _ => ∃ (p : Addr) (pl : Plan) (v : V) (w t m f : PyData), vs = [.ref p, v] ∧ SchAt CS H p pl ∧ Th H v (.tuple [w, t, m, f]) ∧ ∀ H', Same H H' → Q (.bl (loadB pl w t m f)) H'
theorem askOne {K : PySem.W.Frag} {H : Hp} {v : V} {d : PyData} {a : Addr} {ws : List Str} {Q : VK} {E : XK} (hT : Th H v d) (ha : SqT K H a (ws.map V.str) ∨ SqL K H a (ws.map V.str)) (q : Q (.bl (oneOfB d ws)) H) : spOneOf K [v, .ref a] H Q E := by
  by_cases h : ∃ x, d = .str x
  · obtain ⟨x, rfl⟩ := h
    obtain rfl := hT.str_inv
    refine ⟨_, _, rfl, .inr ⟨x, rfl, .inr ⟨a, _, rfl, ha.symm, flat_strs _, ?_⟩⟩⟩
    rw [inV_strs]
    exact q
  · have n : ∀ x, d ≠ .str x := fun x e => h ⟨x, e⟩
    obtain ⟨t, ty, ko⟩ := hT.notStr (K := K) n
    rw [oneOfB_no n] at q
    exact ⟨_, _, rfl, .inl ⟨t, ty, ko, q⟩⟩
theorem ok_is_load {P : Program} {w : World} {K : PySem.W.Frag} {mg : Str → Option Value} {base : Heap} {CS CP XCarryError XNoStep XNoKept XNoStops XNotSame XNotSafe XNoFlag XNoStrokes XNothingBegun XNoSchema XNoTable XNoColumn XMissing XNoKey XNoRow XTaken XNotClosed XRefused XNoText XT_MISSING_WORDS XT_COLUMN_STEPS : Addr} (T : Txt K mg CS CP XCarryError XNoStep XNoKept XNoStops XNotSame XNotSafe XNoFlag XNoStrokes XNothingBegun XNoSchema XNoTable XNoColumn XMissing XNoKey XNoRow XTaken XNotClosed XRefused XNoText XT_MISSING_WORDS XT_COLUMN_STEPS) : CallOk P w K mg base 2 "_is_load" (spIsLoad CS) := by
  have c_Schema_tables := ok_Schema_tables (P := P) (w := w) (base := base) T
  have c_is_flag := ok_is_flag (P := P) (w := w) (base := base) T
  have c_is_one_of := ok_is_one_of (P := P) (w := w) (base := base) T
  refine T.d_is_load.ok sc_is_load (fun vs H Q E h => ?_) (fun f cdv A outer s H vs Q E hr h => ?_)
  · obtain ⟨p, pl, v, w, t, m, f, rfl, _⟩ := h
    rfl
  · obtain ⟨p, pl, v, w, n, m, f, rfl, S, hT, q⟩ := h
    obtain ⟨t, xs, rfl, ht, hx⟩ := hT.tup_inv
    obtain ⟨v0, v1, v2, v3, rfl, h0, h1, h2, h3⟩ := hx.four
    refine ⟨_, (pss_cons (ps_asg (pv 1) (kPgT (K := K) (n := 4) rfl (pgs_cons (pg_name (i := 2) sc_is_load.nd rfl (by first | exact Or.inl rfl | exact Or.inr rfl)) (pgs_cons (pg_name (i := 3) sc_is_load.nd rfl (by first | exact Or.inl rfl | exact Or.inr rfl)) (pgs_cons (pg_name (i := 4) sc_is_load.nd rfl (by first | exact Or.inl rfl | exact Or.inr rfl)) (pgs_cons (pg_name (i := 5) sc_is_load.nd rfl (by first | exact Or.inl rfl | exact Or.inr rfl)) pgs_nil))))))
      (pss_cons (ps_if (PW.pt (pw_or (pt_not (pt_val (pe_callC c_is_one_of (hr.mono (by decide)) (pa_cons (pv 2) (pa_cons (pe_tup (pa_cons pe_str pa_nil)) pa_nil))))) (pw_or (pt_not (pt_val (pe_callC c_is_one_of (hr.mono (by decide)) (pa_cons (pv 4) (pa_cons (pe_globV (v := .ref XT_MISSING_WORDS) ⟨_, T.t_MISSING_WORDS, rfl⟩) pa_nil))))) (pw_or1 (pt_not (pt_val (pe_callC c_is_flag (hr.mono (by decide)) (pa_cons (pv 5) pa_nil)))))))) (pss_one (ps_ret pe_bl)) pss_nil)
      (pss_one (ps_ret (pe_callC c_is_one_of (hr.mono (by decide)) (pa_cons (pv 3) (pa_cons (pe_lc (own := [("entry", 6)]) rfl sc_is_load.nd (kPiT (K := K) (pe_methC0 (pv 0) c_Schema_tables (hr.mono (by decide)))) (blkOk_by (N := ["schema", "value", "word", "table", "missing", "matching", "entry"]) (sc := defScope s_is_load) (own := [("entry", 6)]) (by decide +kernel)) (fun _ _ _ _ _ => (pg_name (i := 6) sc_is_load.nd rfl (by first | exact Or.inl rfl | exact Or.inr rfl))) (fun _ _ _ _ _ => pts_nil) (fun _ _ _ _ _ => (pe_ix (kIxT (K := K)) (pv 6) pe_int (fun _ _ => rfl)))) pa_nil))))))), ?_⟩
    refine ⟨_, rfl, t, _, rfl, SqT.of ht, rfl, _, _, rfl, _, _, rfl, _, _, rfl, _, _, rfl, rfl, ?_⟩
    refine ⟨_, rfl, sizeL (by show 1 ≤ 100000; decide), fun t1 ht1 => ?_⟩
    have r1 := Same.upd (o := .tup [.str "load"]) (Same.refl H) ht1
    have ht2 : upd H t1 (.tup [.str "load"]) t1 = some (.tup [.str "load"]) := upd_same
    generalize upd H t1 (.tup [.str "load"]) = G at *
    have q1 : Q (.bl (loadB pl w n m f)) G := q _ r1
    have e1 := h0.same r1
    have e2 := h1.same r1
    have e3 := h2.same r1
    have e4 := h3.same r1
    have qf : ∀ b, b = false → loadB pl w n m f = b → Q (.bl false) G := fun b h1 h2 => by
      rw [h2, h1] at q1
      exact q1
    try unfold tCons
    try unfold tC
    try unfold tNil
    show spOneOf K [v0, .ref t1] G _ _
    refine askOne (ws := ["load"]) e1 (.inl (SqT.of ht2)) ?_
    refine ⟨_, rfl, ite2 (fun c => iteT ?_) (fun c => ?_)⟩
    · refine qf _ rfl ?_
      unfold loadB
      rw [show oneOfB w ["load"] = false by simpa using c]
      rfl
    have c1 : oneOfB w ["load"] = true := by simpa using c
    refine ⟨_, rfl, ?_⟩
    try unfold tCons
    try unfold tC
    try unfold tNil
    show spOneOf K [v2, .ref XT_MISSING_WORDS] G _ _
    refine askOne (ws := ["raw", "blank", "refuse"]) e3 (.inl (T.w_MISSING_WORDS G)) ?_
    refine ⟨_, rfl, ite2 (fun c => iteT ?_) (fun c => ?_)⟩
    · refine qf _ rfl ?_
      unfold loadB
      rw [show oneOfB m ["raw", "blank", "refuse"] = false by simpa using c, c1]
      rfl
    have c2 : oneOfB m ["raw", "blank", "refuse"] = true := by simpa using c
    refine ⟨_, rfl, _, f, rfl, e4, ?_⟩
    refine ⟨_, rfl, ite2 (fun c => ?_) (fun c => ?_)⟩
    · refine qf _ rfl ?_
      unfold loadB
      rw [show isBoolD f = false by simpa using c, c1, c2]
      rfl
    have c3 : isBoolD f = true := by simpa using c
    have ql : loadB pl w n m f = oneOfB n (pl.map (·.1)) := by
      unfold loadB
      rw [c1, c2, c3]
      rfl
    have SG := S.same r1
    obtain ⟨dx, tv, de, kvs, h1, h2, h3, h4⟩ := SG.ex
    obtain ⟨tt, txs, rfl, htt, hxx⟩ := h2.tup_inv
    have hlx : txs.length = pl.length := by rw [hxx.length, List.length_map]
    have hhi := S.good.hi
    refine ⟨_, rfl, _, rfl, p, dx, _, rfl, h1, sFlds_no _ _ (by decide +kernel) (by decide +kernel), p, pl, rfl, SG, fun v hv => ?_⟩
    obtain ⟨tt, txs, rfl, htt, hxx⟩ := hv.tup_inv
    have hlx : txs.length = pl.length := by rw [hxx.length, List.length_map]
    refine ⟨tt, rfl, ⟨_, SqT.of htt⟩, fun D hD => lc_tup (K := K) (a := tt) (xs := txs) (fun i Hi => i ≤ txs.length ∧ Hi D = some (.lst ((pl.take i).map fun e => V.str e.1)) ∧ Same G Hi) ?_ ?_ ?_ ?_⟩
    · exact ⟨Nat.zero_le _, upd_same, Same.upd (Same.refl _) hD⟩
    · rintro i Hi _ ⟨_, _, e⟩
      exact SqT.of (e _ _ htt)
    · rintro i x Hi hxi ⟨hi, hDi, e⟩
      have hil : i < txs.length := (List.getElem?_eq_some_iff.mp hxi).1
      obtain ⟨en, hen, hTd⟩ := hxx.getM hxi
      obtain ⟨tn, tr, rs, rfl, htn, htr, hrs⟩ := entD_inv hTd
      refine ⟨rfl, tYes_if ?_⟩
      refine ⟨_, rfl, tn, _, _, _, rfl, rfl, SqT.of (e _ _ htn), rfl, _, hDi, sizeLt (by rw [List.length_map, List.length_take]; omega), hil, ?_, Same.upd e hD⟩
      have hip : i < pl.length := by omega
      rw [upd_same, List.take_succ_eq_append_getElem hip, List.map_append, (List.getElem?_eq_some_iff.mp hen).2]
      rfl
    · rintro Hi ⟨hi, hDi, e⟩
      rw [hlx, List.take_length] at hDi
      have em : (pl.map fun e => V.str e.1) = (pl.map (·.1)).map V.str := by rw [List.map_map]; rfl
      rw [em] at hDi
      try unfold tCons
      try unfold tC
      try unfold tNil
      show spOneOf K [v1, .ref D] Hi _ _
      refine askOne (ws := pl.map (·.1)) (e2.same e) (.inr (SqL.of hDi)) ?_
      rw [← ql]
      exact q _ (r1.trans e)
end My
namespace My
open PySem L2
def spIsCol (CS : Addr) : Sp := fun vs H Q _ => ∃ (p : Addr) (pl : Plan) (v : V) (w n c : PyData), vs = [.ref p, v] ∧ SchAt CS H p pl ∧ Th H v (.tuple [w, n, c]) ∧ (PyData.tuple [w, n, c]).canLay0 = true ∧ ∀ H', Same H H' → Q (.bl (colB pl w n c)) H'
theorem colPairs_nm {pl : Plan} (g : Good pl) : ∀ r ∈ colPairs pl, Nm r.1 ∧ Nm r.2 := by
  intro r hr
  obtain ⟨e, he, h⟩ := List.mem_flatMap.mp hr
  obtain ⟨x, hx, rfl⟩ := List.mem_map.mp h
  exact ⟨g.nm e he, (g.refs e he).nm x hx⟩
theorem ok_is_column_step {P : Program} {w : World} {K : PySem.W.Frag} {mg : Str → Option Value} {base : Heap} {CS CP XCarryError XNoStep XNoKept XNoStops XNotSame XNotSafe XNoFlag XNoStrokes XNothingBegun XNoSchema XNoTable XNoColumn XMissing XNoKey XNoRow XTaken XNotClosed XRefused XNoText XT_MISSING_WORDS XT_COLUMN_STEPS : Addr} (T : Txt K mg CS CP XCarryError XNoStep XNoKept XNoStops XNotSame XNotSafe XNoFlag XNoStrokes XNothingBegun XNoSchema XNoTable XNoColumn XMissing XNoKey XNoRow XTaken XNotClosed XRefused XNoText XT_MISSING_WORDS XT_COLUMN_STEPS) : CallOk P w K mg base 2 "_is_column_step" (spIsCol CS) := by
  have c_Schema_all_columns := ok_Schema_all_columns (P := P) (w := w) (base := base) T
  have c_is_one_of := ok_is_one_of (P := P) (w := w) (base := base) T
  refine T.d_is_column_step.ok sc_is_column_step (fun vs H Q E h => ?_) (fun f cdv A outer s H vs Q E hr h => ?_)
  · obtain ⟨p, pl, v, w, n, c, rfl, _⟩ := h
    rfl
  · obtain ⟨p, pl, v, w, n, c, rfl, S, hT, hcan, q⟩ := h
    obtain ⟨t, xs, rfl, ht, hx⟩ := hT.tup_inv
    obtain ⟨v0, v1, v2, rfl, h0, h1, h2⟩ := hx.three
    have q0 : ∀ b, colB pl w n c = b → Q (.bl b) H := fun b e => e ▸ q _ (Same.refl H)
    refine ⟨_, (pss_cons (ps_asg (pv 1) (kPgT (K := K) (n := 3) rfl (pgs_cons (pg_name (i := 2) sc_is_column_step.nd rfl (by first | exact Or.inl rfl | exact Or.inr rfl)) (pgs_cons (pg_name (i := 3) sc_is_column_step.nd rfl (by first | exact Or.inl rfl | exact Or.inr rfl)) (pgs_cons (pg_name (i := 4) sc_is_column_step.nd rfl (by first | exact Or.inl rfl | exact Or.inr rfl)) pgs_nil)))))
      (pss_cons (ps_if (PW.pt (pw_or (pt_not (pt_val (pe_callC c_is_one_of (hr.mono (by decide)) (pa_cons (pv 2) (pa_cons (pe_globV (v := .ref XT_COLUMN_STEPS) ⟨_, T.t_COLUMN_STEPS, rfl⟩) pa_nil))))) (pw_or (pt_not (pt_val (pe_callB (kIsi (K := K)) (by rfl) T.n_isinstance (by decide +kernel) (pa_cons (pv 3) (pa_cons (pe_bltn (v := .ty "str") (by rfl) T.n_str (by decide +kernel) rfl) pa_nil))))) (pw_or1 (pt_not (pt_val (pe_callB (kIsi (K := K)) (by rfl) T.n_isinstance (by decide +kernel) (pa_cons (pv 4) (pa_cons (pe_bltn (v := .ty "str") (by rfl) T.n_str (by decide +kernel) rfl) pa_nil))))))))) (pss_one (ps_ret pe_bl)) pss_nil)
      (pss_one (ps_ret (pe_cmpR (kInD (K := K) (u65 hr)) (pe_tup (pa_cons (pv 3) (pa_cons (pv 4) pa_nil))) (pe_methC0 (pv 0) c_Schema_all_columns (hr.mono (by decide))) rfl))))), ?_⟩
    refine ⟨_, rfl, t, _, rfl, SqT.of ht, rfl, _, _, rfl, _, _, rfl, _, _, rfl, rfl, ?_⟩
    refine ⟨_, rfl, ?_⟩
    try unfold tCons
    try unfold tC
    try unfold tNil
    show spOneOf K [v0, .ref XT_COLUMN_STEPS] H _ _
    refine askOne (ws := ["patch", "fill", "sweep"]) h0 (.inl (T.w_COLUMN_STEPS H)) ?_
    refine ⟨_, rfl, ite2 (fun k => iteT ?_) (fun k => ?_)⟩
    · refine q0 _ ?_
      unfold colB
      rw [show oneOfB w ["patch", "fill", "sweep"] = false by simpa using k]
      rfl
    have k1 : oneOfB w ["patch", "fill", "sweep"] = true := by simpa using k
    have cl : colB pl w n c = pairB n c (prs pl) := by
      unfold colB
      rw [k1]
      rfl
    rw [cl] at q0
    obtain ⟨ty1, hy1, ko1⟩ := h1.askStr (K := K)
    refine ⟨_, rfl, _, _, _, _, _, rfl, ClsV.ty "str", hy1, ko1, _, rfl, ite2 (fun k => iteT ?_) (fun k => ?_)⟩
    · refine q0 _ ?_
      unfold pairB
      have z : isStrD n = false := by simpa using k
      cases n <;> first | rfl | cases z
    obtain ⟨x, rfl⟩ := isStrD_inv (d := n) (by simpa using k)
    obtain rfl := h1.str_inv
    obtain ⟨ty2, hy2, ko2⟩ := h2.askStr (K := K)
    refine ⟨_, rfl, _, _, _, _, _, rfl, ClsV.ty "str", hy2, ko2, _, rfl, ite2 (fun k => ?_) (fun k => ?_)⟩
    · refine q0 _ ?_
      unfold pairB
      have z : isStrD c = false := by simpa using k
      cases c <;> first | rfl | cases z
    obtain ⟨y, rfl⟩ := isStrD_inv (d := c) (by simpa using k)
    obtain rfl := h2.str_inv
    refine ⟨_, rfl, _, rfl, sizeL (by show 2 ≤ 100000; decide), fun u hu => ?_⟩
    have r1 := Same.upd (o := .tup [.str x, .str y]) (Same.refl H) hu
    have hu1 : upd H u (.tup [.str x, .str y]) u = some (.tup [.str x, .str y]) := upd_same
    generalize upd H u (.tup [.str x, .str y]) = G at *
    have SG := S.same r1
    obtain ⟨dx, tv, de, kvs, h1, h2, h3, h4⟩ := SG.ex
    refine ⟨_, rfl, p, dx, _, rfl, h1, sFlds_no _ _ (by decide +kernel) (by decide +kernel), p, pl, rfl, SG, fun D G2 acc hD hDD hacc hl e2 => ?_⟩
    have hnm := colPairs_nm S.good
    refine ⟨refD (x, y), (colPairs pl).map refD, (Td.tup (e2 _ _ hu1) (.cons (.str _) (.cons (.str _) .nil))).dp, Dp.lst (SqL.of hDD) hacc.dp, (Fine.tup (n := 1) fun d hd => ?_).sh (by decide), (Fine.lst (n := 2) fun d hd => ?_).sh (by decide), ?_⟩
    · simp only [List.mem_cons, List.not_mem_nil, or_false] at hd
      rcases hd with rfl | rfl
      · exact can_str (can_tup hcan _ (by simp))
      · exact can_str (can_tup hcan _ (by simp))
    · obtain ⟨r, hr, rfl⟩ := List.mem_map.mp hd
      exact refD_fine (hnm r hr).1 (hnm r hr).2
    · rw [refs_any]
      have := q _ (r1.trans e2)
      rw [cl] at this
      exact this
end My
namespace My
open PySem L2
def spIsStep (CS : Addr) : Sp := fun vs H Q _ => ∃ (p : Addr) (pl : Plan) (v : V) (d : PyData), vs = [.ref p, v] ∧ SchAt CS H p pl ∧ Th H v d ∧ d.canLay0 = true ∧ ∀ H', Same H H' → Q (.bl (stepB pl d)) H'
theorem len4 {ds : List PyData} (h : ds.length = 4) : ∃ a b c d, ds = [a, b, c, d] := match ds, h with
  | [a, b, c, d], _ => ⟨a, b, c, d, rfl⟩
theorem len3 {ds : List PyData} (h : ds.length = 3) : ∃ a b c, ds = [a, b, c] := match ds, h with
  | [a, b, c], _ => ⟨a, b, c, rfl⟩
theorem stepB_len {pl : Plan} {ds : List PyData} (h3 : ds.length ≠ 3) (h4 : ds.length ≠ 4) : stepB pl (.tuple ds) = false := by
  unfold stepB
  split
  · rename_i e
    cases e
    exact absurd rfl h4
  · rename_i e
    cases e
    exact absurd rfl h3
  · rfl
theorem stepB_tup {pl : Plan} {d : PyData} (h : ∀ ds, d ≠ .tuple ds) : stepB pl d = false := by
  unfold stepB
  split
  · exact absurd rfl (h _)
  · exact absurd rfl (h _)
  · rfl
theorem ok_is_step {P : Program} {w : World} {K : PySem.W.Frag} {mg : Str → Option Value} {base : Heap} {CS CP XCarryError XNoStep XNoKept XNoStops XNotSame XNotSafe XNoFlag XNoStrokes XNothingBegun XNoSchema XNoTable XNoColumn XMissing XNoKey XNoRow XTaken XNotClosed XRefused XNoText XT_MISSING_WORDS XT_COLUMN_STEPS : Addr} (T : Txt K mg CS CP XCarryError XNoStep XNoKept XNoStops XNotSame XNotSafe XNoFlag XNoStrokes XNothingBegun XNoSchema XNoTable XNoColumn XMissing XNoKey XNoRow XTaken XNotClosed XRefused XNoText XT_MISSING_WORDS XT_COLUMN_STEPS) : CallOk P w K mg base 3 "_is_step" (spIsStep CS) := by
  have c_is_column_step := ok_is_column_step (P := P) (w := w) (base := base) T
  have c_is_load := ok_is_load (P := P) (w := w) (base := base) T
  refine T.d_is_step.ok sc_is_step (fun vs H Q E h => ?_) (fun f cdv A outer s H vs Q E hr h => ?_)
  · obtain ⟨p, pl, v, d, rfl, _⟩ := h
    rfl
  · obtain ⟨p, pl, v, d, rfl, S, hT, hcan, q⟩ := h
    refine ⟨_, (pss_cons (ps_if (pt_not (pt_val (pe_callB (kIsi (K := K)) (by rfl) T.n_isinstance (by decide +kernel) (pa_cons (pv 1) (pa_cons (pe_bltn (v := .ty "tuple") (by rfl) T.n_tuple (by decide +kernel) rfl) pa_nil))))) (pss_one (ps_ret pe_bl)) pss_nil)
      (pss_cons (ps_if (pt_cmpR op_eq (pe_callB (kLen (K := K)) (by rfl) T.n_len PySem.boot_len (pa_cons (pv 1) pa_nil)) pe_int (nomark _)) (pss_one (ps_ret (pe_callC c_is_load (hr.mono (by decide)) (pa_cons (pv 0) (pa_cons (pv 1) pa_nil))))) pss_nil)
      (pss_one (ps_ret (pe_and (pe_cmpR op_eq (pe_callB (kLen (K := K)) (by rfl) T.n_len PySem.boot_len (pa_cons (pv 1) pa_nil)) pe_int (nomark _)) (pe_one (pe_callC c_is_column_step (hr.mono (by decide)) (pa_cons (pv 0) (pa_cons (pv 1) pa_nil))))))))), ?_⟩
    by_cases hd : ∃ ds, d = .tuple ds
    · obtain ⟨ds, rfl⟩ := hd
      have hT0 := hT
      obtain ⟨t, xs, rfl, ht, hx⟩ := hT.tup_inv
      have hl : xs.length = ds.length := hx.length
      refine ⟨_, rfl, _, _, _, _, true, rfl, ClsV.ty "tuple", TyX.base (TyOf.tup ht), kit_ty (by decide +kernel), true, rfl, iteF ?_⟩
      refine ⟨_, rfl, t, _, rfl, .inr (SqT.of ht), rfl, _, rfl, ite2 (fun h => ?_) (fun h => ?_)⟩
      · have h4 : ds.length = 4 := by
          have := V.int.inj (of_decide_eq_true h)
          omega
        obtain ⟨w, n, m, f, rfl⟩ := len4 h4
        exact ⟨_, rfl, _, rfl, p, pl, .ref t, w, n, m, f, rfl, S, hT0, q⟩
      · have h4 : ds.length ≠ 4 := fun z => h (decide_eq_true (by rw [hl, z]; rfl))
        refine ⟨_, rfl, t, _, rfl, .inr (SqT.of ht), rfl, _, rfl, ite2 (fun h => ?_) (fun h => ?_)⟩
        · have h3 : ds.length = 3 := by
            have := V.int.inj (of_decide_eq_true h)
            omega
          obtain ⟨w, n, c, rfl⟩ := len3 h3
          exact ⟨_, rfl, _, rfl, p, pl, .ref t, w, n, c, rfl, S, hT0, hcan, q⟩
        · have h3 : ds.length ≠ 3 := fun z => h (decide_eq_true (by rw [hl, z]; rfl))
          have := q _ (Same.refl H)
          rw [stepB_len h3 h4] at this
          exact this
    · have n : ∀ ds, d ≠ .tuple ds := fun ds e => hd ⟨ds, e⟩
      obtain ⟨ty, hty, ko⟩ := hT.notTup (K := K) n
      have := q _ (Same.refl H)
      rw [stepB_tup n] at this
      exact ⟨_, rfl, _, _, _, _, false, rfl, ClsV.ty "tuple", hty, ko, false, rfl, iteT this⟩
end My
namespace My
open PySem L2
def spScrX (CP CS CM CK : Addr) : Sp := fun vs H Q E => ∃ (p s dx : Addr) (v w : V) (pl : Plan) (d e : PyData), vs = [.ref p, .ref s, v, w] ∧ SchAt CS H s pl ∧ Th H v d ∧ d.canLay0 = true ∧ Th H w e ∧ H p = some (.ins CP dx []) ∧
  (∀ ds b, d = .tuple ds → badAt pl 0 ds = none → e = .bool b → ∀ H', ScrAt CP CS H' p pl ds b → Fr1 p H H' → Q .non H') ∧
  ((∀ ds, d ≠ .tuple ds) → ∀ H' x, Same H H' → H x = none → H' x = some (.xd [("index", .int 0)]) → E (.ref CM) (some x) H') ∧
  (∀ ds (i : Nat), d = .tuple ds → badAt pl 0 ds = some i → ∀ H' x, Same H H' → H x = none → H' x = some (.xd [("index", .int (i : Int))]) → E (.ref CM) (some x) H') ∧
  (∀ ds, d = .tuple ds → badAt pl 0 ds = none → isBoolD e = false → ∀ H', Same H H' → E (.ref CK) none H')
theorem body_Script_init {P : Program} {w : World} {K : PySem.W.Frag} {mg : Str → Option Value} {base : Heap} {CS CP XCarryError XNoStep XNoKept XNoStops XNotSame XNotSafe XNoFlag XNoStrokes XNothingBegun XNoSchema XNoTable XNoColumn XMissing XNoKey XNoRow XTaken XNotClosed XRefused XNoText XT_MISSING_WORDS XT_COLUMN_STEPS : Addr} (T : Txt K mg CS CP XCarryError XNoStep XNoKept XNoStops XNotSame XNotSafe XNoFlag XNoStrokes XNothingBegun XNoSchema XNoTable XNoColumn XMissing XNoKey XNoRow XTaken XNotClosed XRefused XNoText XT_MISSING_WORDS XT_COLUMN_STEPS) : BodyX P w K mg base 7 ["self", "schema", "steps", "kept", "index", "step"] "Script.__init__" s_Script_init (spScrX CP CS XNoStep XNoKept) := by
  have c_NoStep_init__ := ok_NoStep_init (P := P) (w := w) (base := base) T
  have c_Schema := ok_Schema_init (P := P) (w := w) (base := base) T
  have c_Schema_tables := ok_Schema_tables (P := P) (w := w) (base := base) T
  have c_is_step := ok_is_step (P := P) (w := w) (base := base) T
  have c_is_flag := ok_is_flag (P := P) (w := w) (base := base) T
  intro f cdv A outer s H vs Q E hr h
  · obtain ⟨p, sp, dx, v, w, pl, d, e0, rfl, S, hT, hcan, hW, hp, q0, qn, qi, qk⟩ := h
    refine ⟨_, (pss_cons (ps_if (pt_not (pt_val (pe_callB (kIsi (K := K)) (by rfl) T.n_isinstance (by decide +kernel) (pa_cons (pv 2) (pa_cons (pe_bltn (v := .ty "tuple") (by rfl) T.n_tuple (by decide +kernel) rfl) pa_nil))))) (pss_one (ps_raiseE rfl c_NoStep_init__ (hr.mono (by decide)) (takes_of rfl rfl rfl rfl) (pa_cons pe_int pa_nil))) pss_nil)
      (pss_cons (ps_for (passes_of rfl) rfl (pi_enumT (K := K) (by rfl) T.n_enumerate (pa_cons (pv 2) pa_nil)) (kPgT (K := K) (n := 2) rfl (pgs_cons (pg_name (i := 4) sc_Script_init.nd rfl (by first | exact Or.inl rfl | exact Or.inr rfl)) (pgs_cons (pg_name (i := 5) sc_Script_init.nd rfl (by first | exact Or.inl rfl | exact Or.inr rfl)) pgs_nil)))
      (pss_one (ps_if (PW.pt (pw_or (pt_cmpR op_ge (pv 4) (pe_globV T.v_MOST_STEPS) (nomark _)) (pw_or1 (pt_not (pt_val (pe_callC c_is_step (hr.mono (by decide)) (pa_cons (pv 1) (pa_cons (pv 5) pa_nil)))))))) (pss_one (ps_raiseE rfl c_NoStep_init__ (hr.mono (by decide)) (takes_of rfl rfl rfl rfl) (pa_cons (pv 4) pa_nil))) pss_nil)))
      (pss_cons (ps_if (pt_not (pt_val (pe_callC c_is_flag (hr.mono (by decide)) (pa_cons (pv 3) pa_nil)))) (pss_one (ps_raiseN rfl (T.d_CarryError_init.inh T.e_NoKept T.h_NoKept sc_CarryError_init len_CarryError_init (body_CarryError_init (k := 0) T)) (hr.mono (by decide)) (takes_of rfl rfl rfl rfl) (pa_cons pe_str pa_nil))) pss_nil)
      (pss_cons (ps_fld (pv 0) (pe_makeC c_Schema (hr.mono (by decide)) (pa_cons (pe_methC0 (pv 1) c_Schema_tables (hr.mono (by decide))) pa_nil)) rfl)
      (pss_cons (ps_fld (pv 0) (pv 2) rfl)
      (pss_one (ps_fld (pv 0) (pv 3) rfl))))))), ?_⟩
    by_cases hd : ∃ ds, d = .tuple ds
    case neg =>
      have n : ∀ ds, d ≠ .tuple ds := fun ds e => hd ⟨ds, e⟩
      obtain ⟨ty, hty, ko⟩ := hT.notTup (K := K) n
      exact ⟨_, rfl, _, _, _, _, false, rfl, ClsV.ty "tuple", hty, ko, false, rfl, iteT (errMk rfl (by decide) fun y hy => qn n _ y (Same.upd (Same.refl _) hy) hy upd_same)⟩
    obtain ⟨ds, rfl⟩ := hd
    have hcan' := can_tup hcan
    obtain ⟨t, xs, rfl, ht, hx⟩ := hT.tup_inv
    have hlx : xs.length = ds.length := hx.length
    refine ⟨_, rfl, _, _, _, _, true, rfl, ClsV.ty "tuple", TyX.base (TyOf.tup ht), kit_ty (by decide +kernel), true, rfl, iteF ?_⟩
    refine ⟨_, rfl, t, xs, rfl, SqT.of ht, for_enumT (K := K) (a := t) (xs := xs) (fun i σ Hi => ∃ (o4 o5 : Option V), σ = [some (.ref p), some (.ref sp), some (.ref t), some w, o4, o5] ∧ i ≤ 20 ∧ badAt pl 0 ds = badAt pl i (ds.drop i) ∧ Same H Hi) ?_ ?_ ?_ ?_⟩
    · exact ⟨_, _, rfl, by decide, rfl, Same.refl _⟩
    · rintro i σ Hi _ ⟨_, _, _, _, _, e⟩
      exact SqT.of (e _ _ ht)
    · rintro i x σ Hi T hix ⟨o4, o5, rfl, hi20, hb, e⟩ hTn
      have hil : i < xs.length := (List.getElem?_eq_some_iff.mp hix).1
      have e1 := Same.upd (o := .tup [.int (i : Nat), x]) e (e.free hTn)
      obtain ⟨d, hd, hTd⟩ := hx.get hix
      have hTd1 := hTd.same e1
      have S1 := S.same e1
      rw [badAt_at hd] at hb
      refine ⟨T, _, rfl, SqT.of upd_same, rfl, _, _, rfl, _, _, rfl, rfl, ?_⟩
      refine ⟨_, rfl, _, _, rfl, rfl, _, rfl, ite2 (fun h => ?_) (fun h => ?_)⟩
      · have h20 : 20 ≤ i := by
          have : (20 : Int) ≤ (i : Int) := of_decide_eq_true h
          omega
        rw [if_pos (.inl h20)] at hb
        refine iteT ⟨_, rfl, errMk rfl (by decide) fun y hy => qi ds i rfl hb _ y (Same.upd e1 (e1.free hy)) (e1.free hy) upd_same⟩
      have hi : i < 20 := by
        rcases Nat.lt_or_ge i 20 with z | z
        · exact z
        · exact absurd (decide_eq_true (show (20 : Int) ≤ (i : Int) by omega)) h
      refine ⟨_, rfl, _, rfl, sp, pl, x, d, rfl, S1, hTd1, hcan' _ (List.mem_of_getElem? hd), fun H2 e2 => ⟨_, rfl, ite2 (fun c => ?_) (fun c => ?_)⟩⟩
      · have c' : stepB pl d = false := by simpa using c
        rw [if_pos (.inr c')] at hb
        have e3 := e1.trans e2
        exact ⟨_, rfl, errMk rfl (by decide) fun y hy => qi ds i rfl hb _ y (Same.upd e3 (e3.free hy)) (e3.free hy) upd_same⟩
      · have c' : ¬ (20 ≤ i ∨ stepB pl d = false) := by
          rintro (z | z)
          · omega
          · rw [z] at c
            exact c rfl
        rw [if_neg c'] at hb
        exact ⟨_, _, rfl, by omega, hb, e1.trans e2⟩
    · rintro σ Hc ⟨o4, o5, rfl, hi20, hb, e⟩
      have hl : ds.length ≤ 20 := by omega
      rw [hlx, badAt_end] at hb
      have hst : ∀ d ∈ ds, StepD pl d := fun d hd => stepB_step (badAt_none hb d hd)
      have hx := hx.steps hst
      refine ⟨_, rfl, _, e0, rfl, hW.same e, ?_⟩
      refine ⟨_, rfl, ite2 (fun c => ?_) (fun c => ?_)⟩
      · have c' : isBoolD e0 = false := by simpa using c
        exact errMkN T.e_NoKept.ox fun H' eH => qk ds rfl hb c' H' (e.trans eH)
      obtain ⟨b, rfl⟩ := isBoolD_inv (d := e0) (by simpa using c)
      obtain rfl := hW.bl_inv
      have q := q0 ds b rfl hb rfl
      have SC := S.same e
      obtain ⟨sdx, tv, de, kvs, s1, s2, s3, s4⟩ := SC.ex
      refine ⟨_, rfl, sp, sdx, _, rfl, s1, sFlds_no _ _ (by decide +kernel) (by decide +kernel), sp, pl, rfl, SC, fun v hv => ?_⟩
      intro x xdx nx ndx nex
      refine ⟨x, xdx, v, pl, rfl, hv.mono (KT.upd ((KT.refl Hc).upd ndx) nx), S.good, upd_same, fun H4 de4 S4 hde e4 => ⟨rfl, ?_⟩⟩
      have t4 : Same Hc H4 := Same.made' nx ndx e4
      have e5 := e.trans t4
      have hp4 := e5 _ _ hp
      have npx : p ≠ x := fun z => by
        have := e _ _ hp
        rw [z, nx] at this
        cases this
      have npxd : p ≠ xdx := fun z => by
        have := e _ _ hp
        rw [z, ndx] at this
        cases this
      have npde : de4 ≠ p := fun z => by
        rw [z, upd_ne npx, upd_ne npxd, e _ _ hp] at hde
        cases hde
      refine ⟨_, rfl, p, CP, dx, [], rfl, hp4, T.c_Script.cl, T.a_Script_schema, (by show 0 < 1000; decide), ?_⟩
      refine ⟨_, rfl, _, rfl, p, CP, dx, _, rfl, upd_same, T.c_Script.cl, T.a_Script_steps, (by show 1 < 1000; decide), ?_⟩
      refine ⟨_, rfl, _, rfl, p, CP, dx, _, rfl, upd_same, T.c_Script.cl, T.a_Script_kept, (by show 2 < 1000; decide), ?_⟩
      refine q _ ⟨⟨dx, x, .ref t, upd_same, ?_, ?_⟩, hl, hst⟩ ?_
      · have kt : KT H4 (upd (upd (upd H4 p (.ins CP dx (putF "_schema" (V.ref x) []))) p (.ins CP dx (putF "_steps" (V.ref t) (putF "_schema" (V.ref x) [])))) p (.ins CP dx (putF "_kept" (V.bl b) (putF "_steps" (V.ref t) (putF "_schema" (V.ref x) []))))) := fun c ys hc => by
          have ne : c ≠ p := ne_of hc hp4 (by intro z; cases z)
          rw [upd_ne ne, upd_ne ne, upd_ne ne]
          exact hc
        exact (S4.keep kt (fun o ho => by rw [upd_ne npx.symm, upd_ne npx.symm, upd_ne npx.symm]; exact ho) (fun o ho => by rw [upd_ne npde, upd_ne npde, upd_ne npde]; exact ho)).at
      · have ht4 := e5 _ _ ht
        have ne : t ≠ p := ne_of ht4 hp4 (by intro z; cases z)
        have kt : KT H4 (upd (upd (upd H4 p (.ins CP dx (putF "_schema" (V.ref x) []))) p (.ins CP dx (putF "_steps" (V.ref t) (putF "_schema" (V.ref x) [])))) p (.ins CP dx (putF "_kept" (V.bl b) (putF "_steps" (V.ref t) (putF "_schema" (V.ref x) []))))) := fun c ys hc => by
          have ne : c ≠ p := ne_of hc hp4 (by intro z; cases z)
          rw [upd_ne ne, upd_ne ne, upd_ne ne]
          exact hc
        exact .tup (kt _ _ ht4) ((hx.mono (KT.of e5)).mono kt)
      · exact (((Fr1.of e5).at).at).at
theorem len_Script_init {CP CS CM CK : Addr} : ∀ vs H Q E, spScrX CP CS CM CK vs H Q E → vs.length = ["self", "schema", "steps", "kept"].length := by
  rintro vs H Q E ⟨p, s, dx, v, w, pl, d, e, rfl, _⟩
  rfl
theorem ok_Script_init {P : Program} {w : World} {K : PySem.W.Frag} {mg : Str → Option Value} {base : Heap} {CS CP XCarryError XNoStep XNoKept XNoStops XNotSame XNotSafe XNoFlag XNoStrokes XNothingBegun XNoSchema XNoTable XNoColumn XMissing XNoKey XNoRow XTaken XNotClosed XRefused XNoText XT_MISSING_WORDS XT_COLUMN_STEPS : Addr} (T : Txt K mg CS CP XCarryError XNoStep XNoKept XNoStops XNotSame XNotSafe XNoFlag XNoStrokes XNothingBegun XNoSchema XNoTable XNoColumn XMissing XNoKey XNoRow XTaken XNotClosed XRefused XNoText XT_MISSING_WORDS XT_COLUMN_STEPS) : MakeDX P w K mg base 8 CP "Script" [.bl true] (spScrX CP CS XNoStep XNoKept) :=
  T.d_Script_init.makeX T.c_Script sc_Script_init len_Script_init (body_Script_init T)
end My
namespace My
open PySem L2
def spKept (CP CS : Addr) : Sp := fun vs H Q _ => ∃ (p : Addr) (pl : Plan) (ds : List PyData) (b : Bool), vs = [.ref p] ∧ ScrAt CP CS H p pl ds b ∧ Q (.bl b) H
theorem ok_Script_kept {P : Program} {w : World} {K : PySem.W.Frag} {mg : Str → Option Value} {base : Heap} {CS CP XCarryError XNoStep XNoKept XNoStops XNotSame XNotSafe XNoFlag XNoStrokes XNothingBegun XNoSchema XNoTable XNoColumn XMissing XNoKey XNoRow XTaken XNotClosed XRefused XNoText XT_MISSING_WORDS XT_COLUMN_STEPS : Addr} (T : Txt K mg CS CP XCarryError XNoStep XNoKept XNoStops XNotSame XNotSafe XNoFlag XNoStrokes XNothingBegun XNoSchema XNoTable XNoColumn XMissing XNoKey XNoRow XTaken XNotClosed XRefused XNoText XT_MISSING_WORDS XT_COLUMN_STEPS) : PropOk P w K mg base 1 CP "kept" (spKept CP CS) := by
  refine T.d_Script_kept.ok T.c_Script.cl sc_Script_kept (fun vs H Q E h => ?_) (fun f cdv A outer s H vs Q E hr h => ?_)
  · obtain ⟨p, pl, ds, b, rfl, _⟩ := h
    rfl
  · obtain ⟨p, pl, ds, b, rfl, S, q⟩ := h
    obtain ⟨dx, sp, tv, h1, h2, h3⟩ := S.ex
    refine ⟨_, (pss_one (ps_ret (kFld (K := K) (pv 0) rfl))), ?_⟩
    exact ⟨_, rfl, p, CP, dx, _, _, rfl, h1, T.c_Script.cl, T.a_Script_kept, cFlds_k _ _ _, q⟩
end My
namespace My
open PySem L2
def spSteps (CP CS : Addr) : Sp := fun vs H Q _ => ∃ (p : Addr) (pl : Plan) (ds : List PyData) (b : Bool), vs = [.ref p] ∧ ScrAt CP CS H p pl ds b ∧ ∀ v, Td H v (.tuple ds) → Q v H
theorem ok_Script_steps {P : Program} {w : World} {K : PySem.W.Frag} {mg : Str → Option Value} {base : Heap} {CS CP XCarryError XNoStep XNoKept XNoStops XNotSame XNotSafe XNoFlag XNoStrokes XNothingBegun XNoSchema XNoTable XNoColumn XMissing XNoKey XNoRow XTaken XNotClosed XRefused XNoText XT_MISSING_WORDS XT_COLUMN_STEPS : Addr} (T : Txt K mg CS CP XCarryError XNoStep XNoKept XNoStops XNotSame XNotSafe XNoFlag XNoStrokes XNothingBegun XNoSchema XNoTable XNoColumn XMissing XNoKey XNoRow XTaken XNotClosed XRefused XNoText XT_MISSING_WORDS XT_COLUMN_STEPS) : MethOk P w K mg base 1 CP "steps" (spSteps CP CS) := by
  refine T.d_Script_steps.ok T.c_Script.cl sc_Script_steps (fun vs H Q E h => ?_) (fun f cdv A outer s H vs Q E hr h => ?_)
  · obtain ⟨p, pl, ds, b, rfl, _⟩ := h
    rfl
  · obtain ⟨p, pl, ds, b, rfl, S, q⟩ := h
    obtain ⟨dx, sp, tv, h1, h2, h3⟩ := S.ex
    refine ⟨_, (pss_one (ps_ret (kFld (K := K) (pv 0) rfl))), ?_⟩
    exact ⟨_, rfl, p, CP, dx, _, _, rfl, h1, T.c_Script.cl, T.a_Script_steps, cFlds_t _ _ _, q _ h3⟩
end My
namespace My
open PySem L2
def spLIs : Sp := fun vs H Q _ => ∃ (tv v : V) (pl : Plan) (d : PyData), vs = [tv, v] ∧ Td H tv (planD pl) ∧ Good pl ∧ Th H v d ∧ ∀ H', Same H H' → Q (.bl (stepB pl d)) H'
def S3 (pl : Plan) (w n m : Str) (rest : List PyData) : Bool := stepB pl (.tuple (.str w :: .str n :: .str m :: rest))
def fnd (pl : Plan) (n : Str) : List Ent := pl.filter fun e => decide (e.1 = n)
theorem fnd_len (pl : Plan) (n : Str) : (fnd pl n).length ≤ pl.length := List.length_filter_le _ _
theorem fnd_ne {pl : Plan} {n : Str} {i : Nat} (h : i < pl.length) (e : ¬ pl[i].1 = n) : fnd (pl.take (i + 1)) n = fnd (pl.take i) n := by
  unfold fnd
  rw [List.take_succ_eq_append_getElem h, List.filter_append]
  simp [e]
theorem fnd_eq {pl : Plan} {n : Str} {i : Nat} (h : i < pl.length) (e : pl[i].1 = n) : fnd (pl.take (i + 1)) n = fnd (pl.take i) n ++ [pl[i]] := by
  unfold fnd
  rw [List.take_succ_eq_append_getElem h, List.filter_append]
  simp [e]
theorem fnd_mem {pl : Plan} {n : Str} {e : Ent} (h : e ∈ fnd pl n) : e ∈ pl ∧ e.1 = n := by
  unfold fnd at h
  rw [List.mem_filter, decide_eq_true_iff] at h
  exact h
theorem fnd_nil {pl : Plan} {n : Str} (h : fnd pl n = []) : n ∉ pl.map (·.1) := by
  intro hn
  obtain ⟨e, he, rfl⟩ := List.mem_map.mp hn
  have : e ∈ fnd pl e.1 := List.mem_filter.mpr ⟨he, decide_eq_true rfl⟩
  rw [h] at this
  cases this
theorem nd_ent' : ∀ {pl : Plan}, (pl.map (·.1)).Nodup → ∀ {a b : Ent}, a ∈ pl → b ∈ pl → a.1 = b.1 → a = b
  | [], _, _, _, h, _, _ => absurd h (List.not_mem_nil)
  | x :: r, nd, a, b, ha, hb, e => by
    rw [List.map_cons, List.nodup_cons] at nd
    rcases List.mem_cons.mp ha with h1 | h1 <;> rcases List.mem_cons.mp hb with h2 | h2
    · rw [h1, h2]
    · exact absurd (List.mem_map.mpr ⟨b, h2, by rw [← e, h1]⟩) nd.1
    · exact absurd (List.mem_map.mpr ⟨a, h1, by rw [e, h2]⟩) nd.1
    · exact nd_ent' nd.2 h1 h2 e
theorem nd_ent {pl : Plan} (g : Good pl) {a b : Ent} (ha : a ∈ pl) (hb : b ∈ pl) (e : a.1 = b.1) : a = b := nd_ent' g.nd ha hb e
theorem S3_no {pl : Plan} {w n m : Str} {rest : List PyData} (h : n ∉ pl.map (·.1)) : S3 pl w n m rest = false := by
  cases e : S3 pl w n m rest with
  | false => rfl
  | true =>
    have := stepB_step e
    exfalso
    cases this with
    | load n m b hn hm => exact h hn
    | col w n c hw hc =>
      obtain ⟨x, hx, rfl, _⟩ := hc
      exact h (List.mem_map.mpr ⟨x, hx, rfl⟩)
theorem S3_load {pl : Plan} {n m : Str} {f : PyData} (h : n ∈ pl.map (·.1)) : S3 pl "load" n m [f] = (decide (m ∈ [("raw" : Str), "blank", "refuse"]) && isBoolD f) := by
  show (oneOfB (.str "load") ["load"] && (decide (m ∈ [("raw" : Str), "blank", "refuse"]) && (isBoolD f && decide (n ∈ pl.map (·.1))))) = _
  rw [show oneOfB (.str "load") ["load"] = true by decide +kernel, decide_eq_true h]
  simp
theorem S3_load0 {pl : Plan} {n m : Str} : S3 pl "load" n m [] = false := by
  show (oneOfB (.str "load") ["patch", "fill", "sweep"] && pairB (.str n) (.str m) (prs pl)) = _
  rw [show oneOfB (.str "load") ["patch", "fill", "sweep"] = false by decide +kernel]
  rfl
theorem S3_col1 {pl : Plan} {w n m : Str} {f : PyData} (h : w ≠ "load") : S3 pl w n m [f] = false := by
  show (decide (w ∈ [("load" : Str)]) && _) = _
  rw [decide_eq_false (by rw [List.mem_singleton]; exact h)]
  rfl
theorem S3_col {pl : Plan} (g : Good pl) {w m : Str} {e : Ent} (he : e ∈ pl) : S3 pl w e.1 m [] = (decide (w ∈ [("patch" : Str), "fill", "sweep"]) && decide (m ∈ e.2.2.map (·.1))) := by
  show (decide (w ∈ [("patch" : Str), "fill", "sweep"]) && decide ((e.1, m) ∈ prs pl)) = _
  congr 1
  rw [Bool.eq_iff_iff, decide_eq_true_iff, decide_eq_true_iff, prs_iff]
  constructor
  · rintro ⟨x, hx, h1, h2⟩
    rw [← nd_ent g hx he h1]
    exact h2
  · intro h
    exact ⟨e, he, rfl, h⟩
theorem len34 {ds : List PyData} (h3 : 3 ≤ ds.length) (h4 : ds.length ≤ 4) : ∃ a b c r, ds = a :: b :: c :: r ∧ r.length ≤ 1 := match ds, h3, h4 with
  | a :: b :: c :: r, _, h => ⟨a, b, c, r, rfl, by simp only [List.length_cons] at h; omega⟩
theorem stepB_str {pl : Plan} {a b c : PyData} {r : List PyData} (h : ¬ (isStrD a = true ∧ isStrD b = true ∧ isStrD c = true)) : stepB pl (.tuple (a :: b :: c :: r)) = false := by
  cases e : stepB pl (.tuple (a :: b :: c :: r)) with
  | false => rfl
  | true =>
    have := stepB_step e
    exfalso
    cases this with
    | load n m b hn hm => exact h ⟨rfl, rfl, rfl⟩
    | col w n c hw hc => exact h ⟨rfl, rfl, rfl⟩
theorem ok_law_is_step {P : Program} {w : World} {K : PySem.W.Frag} {mg : Str → Option Value} {base : Heap} {CS CP XCarryError XNoStep XNoKept XNoStops XNotSame XNotSafe XNoFlag XNoStrokes XNothingBegun XNoSchema XNoTable XNoColumn XMissing XNoKey XNoRow XTaken XNotClosed XRefused XNoText XT_MISSING_WORDS XT_COLUMN_STEPS : Addr} (T : Txt K mg CS CP XCarryError XNoStep XNoKept XNoStops XNotSame XNotSafe XNoFlag XNoStrokes XNothingBegun XNoSchema XNoTable XNoColumn XMissing XNoKey XNoRow XTaken XNotClosed XRefused XNoText XT_MISSING_WORDS XT_COLUMN_STEPS) : CallOk P w K mg base 1 "_law_is_step" spLIs := by
  skip
  refine T.d_law_is_step.ok sc_law_is_step (fun vs H Q E h => ?_) (fun f cdv A outer s H vs Q E hr h => ?_)
  · obtain ⟨tv, v, pl, d, rfl, _⟩ := h
    rfl
  · obtain ⟨tv, v, pl, d, rfl, hT, g, hD, q⟩ := h
    have q0 : ∀ b H', Same H H' → stepB pl d = b → Q (.bl b) H' := fun b H' e h => h ▸ q _ e
    refine ⟨_, (pss_cons (ps_if (PW.pt (pw_or (pt_not (pt_val (pe_callB (kIsi (K := K)) (by rfl) T.n_isinstance (by decide +kernel) (pa_cons (pv 1) (pa_cons (pe_bltn (v := .ty "tuple") (by rfl) T.n_tuple (by decide +kernel) rfl) pa_nil))))) (pw_or (pt_cmpR op_lt (pe_callB (kLen (K := K)) (by rfl) T.n_len PySem.boot_len (pa_cons (pv 1) pa_nil)) pe_int (nomark _)) (pw_or1 (pt_cmpR op_gt (pe_callB (kLen (K := K)) (by rfl) T.n_len PySem.boot_len (pa_cons (pv 1) pa_nil)) pe_int (nomark _)))))) (pss_one (ps_ret pe_bl)) pss_nil)
      (pss_cons (ps_for PassesOwn.never rfl (kPiT (K := K) (pe_slice sl_tupH (pv 1) po_none (po_some pe_int))) (pg_name (i := 2) sc_law_is_step.nd rfl (by first | exact Or.inl rfl | exact Or.inr rfl))
      (pss_one (ps_if (pt_not (pt_val (pe_callB (kIsi (K := K)) (by rfl) T.n_isinstance (by decide +kernel) (pa_cons (pv 2) (pa_cons (pe_bltn (v := .ty "str") (by rfl) T.n_str (by decide +kernel) rfl) pa_nil))))) (pss_one (ps_ret pe_bl)) pss_nil)))
      (pss_cons (ps_setLc (i := 3) (own := [("name", 5), ("unique", 6), ("references", 7)]) rfl sc_law_is_step.nd rfl rfl (sw_true rfl rfl rfl (by decide +kernel)) (kPiT (K := K) (pv 0)) (blkOk_by (N := ["tables", "thing", "part", "found", "columns", "name", "unique", "references", "column", "other"]) (sc := defScope s_law_is_step) (own := [("name", 5), ("unique", 6), ("references", 7)]) (by decide +kernel)) (fun _ _ _ _ _ => (kPgT (K := K) (n := 3) rfl (pgs_cons (pg_name (i := 5) sc_law_is_step.nd rfl (by first | exact Or.inl rfl | exact Or.inr rfl)) (pgs_cons (pg_name (i := 6) sc_law_is_step.nd rfl (by first | exact Or.inl rfl | exact Or.inr rfl)) (pgs_cons (pg_name (i := 7) sc_law_is_step.nd rfl (by first | exact Or.inl rfl | exact Or.inr rfl)) pgs_nil))))) (fun _ _ _ _ _ => (pts_one (pt_cmpR op_eq (pv 5) (pe_ix (kIxT (K := K)) (pv 1) pe_int (fun _ _ => rfl)) (nomark _)))) (fun _ _ _ _ _ => (pv 7)))
      (pss_cons (ps_if (pt_cmpR (kEqD (K := K) hr.units) (pv 3) (pe_lst pa_nil) (nomark _)) (pss_one (ps_ret pe_bl)) pss_nil)
      (pss_cons (ps_if (pt_cmpR op_eq (pe_ix (kIxT (K := K)) (pv 1) pe_int (fun _ _ => rfl)) pe_str (nomark _)) (pss_one (ps_ret (pe_and (pe_cmpR op_eq (pe_callB (kLen (K := K)) (by rfl) T.n_len PySem.boot_len (pa_cons (pv 1) pa_nil)) pe_int (nomark _)) (pe_and (pe_cmpR (kIn (K := K)) (pe_ix (kIxT (K := K)) (pv 1) pe_int (fun _ _ => rfl)) (pe_tup (pa_cons pe_str (pa_cons pe_str (pa_cons pe_str pa_nil)))) rfl) (pe_one (pe_callB (kIsi (K := K)) (by rfl) T.n_isinstance (by decide +kernel) (pa_cons (pe_ix (kIxT (K := K)) (pv 1) pe_int (fun _ _ => rfl)) (pa_cons (pe_bltn (v := .ty "bool") (by rfl) T.n_bool (by decide +kernel) rfl) pa_nil)))))))) pss_nil)
      (pss_cons (ps_setLc (i := 4) (own := [("column", 8), ("other", 9)]) rfl sc_law_is_step.nd rfl rfl (sw_true rfl rfl rfl (by decide +kernel)) (kPiT (K := K) (pe_ix (kIxL (K := K)) (pv 3) pe_int (fun _ _ => rfl))) (blkOk_by (N := ["tables", "thing", "part", "found", "columns", "name", "unique", "references", "column", "other"]) (sc := defScope s_law_is_step) (own := [("column", 8), ("other", 9)]) (by decide +kernel)) (fun _ _ _ _ _ => (kPgT (K := K) (n := 2) rfl (pgs_cons (pg_name (i := 8) sc_law_is_step.nd rfl (by first | exact Or.inl rfl | exact Or.inr rfl)) (pgs_cons (pg_name (i := 9) sc_law_is_step.nd rfl (by first | exact Or.inl rfl | exact Or.inr rfl)) pgs_nil)))) (fun _ _ _ _ _ => pts_nil) (fun _ _ _ _ _ => (pv 8)))
      (pss_one (ps_ret (pe_and (pe_cmpR op_eq (pe_callB (kLen (K := K)) (by rfl) T.n_len PySem.boot_len (pa_cons (pv 1) pa_nil)) pe_int (nomark _)) (pe_and (pe_cmpR (kIn (K := K)) (pe_ix (kIxT (K := K)) (pv 1) pe_int (fun _ _ => rfl)) (pe_tup (pa_cons pe_str (pa_cons pe_str (pa_cons pe_str pa_nil)))) rfl) (pe_one (pe_cmpR (kIn (K := K)) (pe_ix (kIxT (K := K)) (pv 1) pe_int (fun _ _ => rfl)) (pv 4) rfl)))))))))))), ?_⟩
    by_cases hd : ∃ ds, d = .tuple ds
    case neg =>
      have n : ∀ ds, d ≠ .tuple ds := fun ds e => hd ⟨ds, e⟩
      obtain ⟨ty, hty, ko⟩ := hD.notTup (K := K) n
      exact ⟨_, rfl, _, _, _, _, false, rfl, ClsV.ty "tuple", hty, ko, false, rfl, iteT (iteT (q0 _ _ (Same.refl H) (stepB_tup n)))⟩
    obtain ⟨ds, rfl⟩ := hd
    have hD0 := hD
    obtain ⟨t, xs, rfl, ht, hx⟩ := hD.tup_inv
    have hl : xs.length = ds.length := hx.length
    obtain ⟨tt, txs, rfl, htt, htx⟩ := hT.tup_inv
    have hlt : txs.length = pl.length := by rw [htx.length, List.length_map]
    have hhi := g.hi
    refine ⟨_, rfl, _, _, _, _, true, rfl, ClsV.ty "tuple", TyX.base (TyOf.tup ht), kit_ty (by decide +kernel), true, rfl, iteF ?_⟩
    refine ⟨_, rfl, t, _, rfl, .inr (SqT.of ht), _, _, rfl, rfl, _, rfl, ite2 (fun h => iteT ?_) (fun h => ?_)⟩
    · have := of_decide_eq_true h
      exact q0 _ _ (Same.refl H) (stepB_len (by omega) (by omega))
    have h3 : 3 ≤ ds.length := by
      rcases Nat.lt_or_ge ds.length 3 with z | z
      · exact absurd (decide_eq_true (by omega)) h
      · exact z
    refine ⟨_, rfl, t, _, rfl, .inr (SqT.of ht), _, _, rfl, rfl, _, rfl, ite2 (fun h => ?_) (fun h => ?_)⟩
    · have := of_decide_eq_true h
      exact q0 _ _ (Same.refl H) (stepB_len (by omega) (by omega))
    have h4 : ds.length ≤ 4 := by
      rcases Nat.lt_or_ge 4 ds.length with z | z
      · exact absurd (decide_eq_true (by omega)) h
      · exact z
    obtain ⟨a, b, c, r, rfl, hr1⟩ := len34 h3 h4
    obtain ⟨va, vb, vc, vr, rfl, h0, h1, h2, hvr⟩ : ∃ va vb vc vr, xs = va :: vb :: vc :: vr ∧ Th H va a ∧ Th H vb b ∧ Th H vc c ∧ ThAll H vr r := by
      cases hx with
      | cons h0 z => cases z with
        | cons h1 z => cases z with
          | cons h2 z => exact ⟨_, _, _, _, rfl, h0, h1, h2, z⟩
    refine ⟨_, rfl, _, rfl, _, hD0, fun v3 G e0 T3 => ?_⟩
    have c3 : cutL (a :: b :: c :: r) none (some 3) = [a, b, c] := by
      exact cutL_to (a :: b :: c :: r) 3
    rw [c3] at T3
    obtain ⟨t3, ys, rfl, ht3, hy⟩ := T3.tup_inv
    obtain ⟨xa, xb, xc, rfl, ha, hb, hc⟩ := hy.three
    refine ⟨t3, rfl, ⟨_, SqT.of ht3⟩, for_tup (K := K) (a := t3) (xs := [xa, xb, xc]) (fun i σ Hi => (∃ o2 : Option V, σ = [some (.ref tt), some (.ref t), o2, none, none, none, none, none, none, none]) ∧ Hi = G ∧ (1 ≤ i → isStrD a = true) ∧ (2 ≤ i → isStrD b = true) ∧ (3 ≤ i → isStrD c = true)) ?_ ?_ ?_ ?_⟩
    · exact ⟨⟨_, rfl⟩, rfl, fun z => absurd z (by omega), fun z => absurd z (by omega), fun z => absurd z (by omega)⟩
    · rintro i σ Hi _ ⟨_, rfl, _⟩
      exact SqT.of ht3
    · rintro i x σ Hi hxi ⟨⟨o2, rfl⟩, rfl, i1, i2, i3⟩
      have key : ∃ dd, Th Hi x dd ∧ (isStrD dd = false → ¬ (isStrD a = true ∧ isStrD b = true ∧ isStrD c = true)) ∧ (isStrD dd = true → (1 ≤ i + 1 → isStrD a = true) ∧ (2 ≤ i + 1 → isStrD b = true) ∧ (3 ≤ i + 1 → isStrD c = true)) := by
        match i, hxi with
        | 0, hxi =>
          cases hxi
          exact ⟨a, ha, fun z y => by rw [z] at y; exact absurd y.1 (by decide), fun z => ⟨fun _ => z, fun y => absurd y (by omega), fun y => absurd y (by omega)⟩⟩
        | 1, hxi =>
          cases hxi
          exact ⟨b, hb, fun z y => by rw [z] at y; exact absurd y.2.1 (by decide), fun z => ⟨fun _ => i1 (by omega), fun _ => z, fun y => absurd y (by omega)⟩⟩
        | 2, hxi =>
          cases hxi
          exact ⟨c, hc, fun z y => by rw [z] at y; exact absurd y.2.2 (by decide), fun z => ⟨fun _ => i1 (by omega), fun _ => i2 (by omega), fun _ => z⟩⟩
      obtain ⟨dd, hdd, kf, kt⟩ := key
      obtain ⟨ty, hty, ko⟩ := hdd.askStr (K := K)
      refine ⟨_, rfl, _, _, _, _, _, rfl, ClsV.ty "str", hty, ko, _, rfl, ite2 (fun k => ?_) (fun k => ?_)⟩
      · exact q0 _ _ e0 (stepB_str (kf (by simpa using k)))
      · obtain ⟨k1, k2, k3⟩ := kt (by simpa using k)
        exact ⟨⟨_, rfl⟩, rfl, k1, k2, k3⟩
    rintro σ Hc ⟨⟨o2, rfl⟩, rfl, i1, i2, i3⟩
    obtain ⟨w, rfl⟩ := isStrD_inv (i1 (by show 1 ≤ 3; decide))
    obtain ⟨n, rfl⟩ := isStrD_inv (i2 (by show 2 ≤ 3; decide))
    obtain ⟨m, rfl⟩ := isStrD_inv (i3 (by show 3 ≤ 3; decide))
    obtain rfl := h0.str_inv
    obtain rfl := h1.str_inv
    obtain rfl := h2.str_inv
    have qS : ∀ b H', Same Hc H' → S3 pl w n m r = b → Q (.bl b) H' := fun b H' e h => q0 b H' (e0.trans e) h
    have htt1 := e0 _ _ htt
    have ht1 := e0 _ _ ht
    have htx1 : TdAll Hc txs (pl.map entD) := htx.mono (KT.of e0)
    have hvr1 := hvr.same e0
    refine ⟨_, rfl, tt, rfl, ⟨_, SqT.of htt1⟩, fun D hD => lc_tup (K := K) (a := tt) (xs := txs) (fun i Hi => i ≤ txs.length ∧ (∃ acc, Hi D = some (.lst acc) ∧ TdAll Hi acc ((fnd (pl.take i) n).map fun e => refsD e.2.2)) ∧ Same Hc Hi) ?_ ?_ ?_ ?_⟩
    · exact ⟨Nat.zero_le _, ⟨[], upd_same, .nil⟩, Same.upd (Same.refl _) hD⟩
    · rintro i Hi _ ⟨_, _, e⟩
      exact SqT.of (e _ _ htt1)
    · rintro i x Hi hxi ⟨hi, ⟨acc, hDi, hAcc⟩, e⟩
      have hil : i < txs.length := (List.getElem?_eq_some_iff.mp hxi).1
      have hip : i < pl.length := by omega
      obtain ⟨en, hen, hTd⟩ := htx1.getM hxi
      have hen2 := (List.getElem?_eq_some_iff.mp hen).2
      obtain ⟨tn, tr, rs, rfl, htn, htr, hrs⟩ := entD_inv hTd
      refine ⟨tn, _, rfl, SqT.of (e _ _ htn), rfl, _, _, rfl, _, _, rfl, _, _, rfl, rfl, ?_⟩
      refine ⟨rfl, _, rfl, _, rfl, t, _, _, _, rfl, rfl, SqT.of (e _ _ ht1), atI_nat (j := 1) rfl, rfl, _, rfl, ?_⟩
      by_cases hw : pl[i].1 = n
      · rw [hen2] at hw
        rw [show decide (V.str en.1 = V.str n) = true by rw [hw]; exact decide_eq_true rfl]
        refine iteT ⟨_, rfl, _, hDi, sizeLt ?_, hil, ⟨_, upd_same, ?_⟩, Same.upd e hD⟩
        · rw [hAcc.length, List.length_map]
          have := fnd_len (pl.take i) n
          rw [List.length_take] at this
          omega
        · rw [fnd_eq hip (by rw [hen2]; exact hw), List.map_append, hen2]
          have t2 : Td Hi (.ref tr) (refsD en.2.2) := .tup (e _ _ htr) (hrs.mono (KT.of e))
          have kt : KT Hi (upd Hi D (.lst (acc ++ [.ref tr]))) := fun c ys hc => by
            rw [upd_ne (ne_of hc hDi (by intro z; cases z))]
            exact hc
          exact (hAcc.mono kt).append (.cons (t2.mono kt) .nil)
      · rw [hen2] at hw
        rw [show decide (V.str en.1 = V.str n) = false from decide_eq_false fun z => hw (V.str.inj z)]
        refine iteF ⟨hil, ⟨acc, hDi, ?_⟩, e⟩
        rw [fnd_ne hip (by rw [hen2]; exact hw)]
        exact hAcc
    rintro Hd ⟨_, ⟨acc, hDd, hAcc⟩, e1⟩
    rw [hlt, List.take_length] at hAcc
    have hla : acc.length = (fnd pl n).length := by rw [hAcc.length, List.length_map]
    refine ⟨_, rfl, sizeL (by show 0 ≤ 100000; decide), fun l hl0 => ?_⟩
    have r1 := Same.upd (o := .lst []) (Same.refl Hd) hl0
    have hl1 : upd Hd l (.lst []) l = some (.lst []) := upd_same
    generalize upd Hd l (.lst []) = He at *
    have e2 := e1.trans r1
    have hDe := r1 _ _ hDd
    have hAe : TdAll He acc ((fnd pl n).map fun e => refsD e.2.2) := hAcc.mono (KT.of r1)
    refine ⟨_, _, Dp.lst (SqL.of hDe) hAe.dp, Dp.lst (SqL.of hl1) .nil, (Fine.lst (n := 3) fun d hd => ?_).sh (by decide), (Fine.lst (n := 1) (by simp)).sh (by decide), _, by rw [eqv_lists_nil], ite2 (fun c => ?_) (fun c => ?_)⟩
    · obtain ⟨x, hx, rfl⟩ := List.mem_map.mp hd
      exact g.refsD_fine (fnd_mem hx).1
    · refine qS _ _ e2 (S3_no (fnd_nil ?_))
      simpa using c
    obtain ⟨en, rest, hfn⟩ : ∃ en rest, fnd pl n = en :: rest := by
      cases z : fnd pl n with
      | nil => rw [z] at c; exact absurd rfl c
      | cons x y => exact ⟨x, y, rfl⟩
    obtain ⟨hem, hen⟩ := fnd_mem (n := n) (e := en) (pl := pl) (by rw [hfn]; exact List.mem_cons_self)
    subst hen
    have hnm : en.1 ∈ pl.map (·.1) := List.mem_map.mpr ⟨en, hem, rfl⟩
    have gr := g.refs en hem
    have g3 := gr.len
    have ht2 := e2 _ _ ht1
    have hvr2 := hvr1.same e2
    have hlr : vr.length = r.length := hvr.length
    refine ⟨_, rfl, t, _, _, _, rfl, rfl, SqT.of ht2, atI_nat (j := 0) rfl, rfl, _, rfl, ite2 (fun cw => ?_) (fun cw => ?_)⟩
    · -- 'load'
      obtain rfl : w = "load" := V.str.inj (of_decide_eq_true cw)
      match r, vr, hvr2, hr1 with
      | [], _, .nil, _ =>
        exact ⟨_, rfl, t, _, rfl, .inr (SqT.of ht2), rfl, false, rfl, iteF (qS _ _ e2 S3_load0)⟩
      | [f], _, .cons (v := vf) hf .nil, _ =>
        refine ⟨_, rfl, t, _, rfl, .inr (SqT.of ht2), rfl, true, rfl, iteT ?_⟩
        refine ⟨_, rfl, t, _, _, _, rfl, rfl, SqT.of ht2, atI_nat (j := 2) rfl, sizeL (by show 3 ≤ 100000; decide), fun u hu => ?_⟩
        have r2 := Same.upd (o := .tup [.str "raw", .str "blank", .str "refuse"]) (Same.refl He) hu
        have hu1 : upd He u (.tup [.str "raw", .str "blank", .str "refuse"]) u = some (.tup [.str "raw", .str "blank", .str "refuse"]) := upd_same
        generalize upd He u (.tup [.str "raw", .str "blank", .str "refuse"]) = Hf at *
        have e3 := e2.trans r2
        have hS := S3_load (m := m) (f := f) hnm
        refine ⟨u, [("raw" : Str), "blank", "refuse"].map V.str, rfl, .inr (SqT.of hu1), rfl, flat_strs _, _, rfl, ?_⟩
        show ite ((if false = true then _ else inV (.str m) ([("raw" : Str), "blank", "refuse"].map V.str)) = true) _ _
        rw [inV_strs]
        refine ite2 (fun k => ?_) (fun k => ?_)
        · obtain ⟨ty, hty, ko⟩ := ((hf.same r2)).askBool (K := K)
          refine ⟨_, rfl, t, _, _, vf, rfl, rfl, SqT.of (r2 _ _ ht2), atI_nat (j := 3) rfl, _, _, _, _, _, rfl, ClsV.ty "bool", hty, ko, ?_⟩
          refine qS _ _ e3 ?_
          rw [hS, show decide (m ∈ [("raw" : Str), "blank", "refuse"]) = true from k]
          rfl
        · have k' : decide (m ∈ [("raw" : Str), "blank", "refuse"]) = false := by simpa using k
          refine qS _ _ e3 ?_
          rw [hS, k']
          rfl
    · have hw : w ≠ "load" := fun z => cw (decide_eq_true (by rw [z]))
      obtain ⟨x0, acc', rfl, hx0⟩ : ∃ x0 acc', acc = x0 :: acc' ∧ Td He x0 (refsD en.2.2) := by
        rw [hfn, List.map_cons] at hAe
        cases hAe with
        | cons h r => exact ⟨_, _, rfl, h⟩
      obtain ⟨tr, rs, rfl, htr, hrs⟩ := hx0.tup_inv
      have hlrs : rs.length = en.2.2.length := by rw [hrs.length, List.length_map]
      obtain ⟨ws, hws⟩ : ∃ ws, ws = en.2.2.map (·.1) := ⟨_, rfl⟩
      have hwl : ws.length = rs.length := by rw [hws, List.length_map, hlrs]
      refine ⟨_, rfl, D, _, _, _, rfl, rfl, SqL.of hDe, atI_nat (j := 0) rfl, tr, rfl, ⟨_, SqT.of htr⟩, fun O hO => lc_tup (K := K) (a := tr) (xs := rs) (fun i Hi => i ≤ rs.length ∧ Hi O = some (.lst ((ws.take i).map V.str)) ∧ Same He Hi) ?_ ?_ ?_ ?_⟩
      · exact ⟨Nat.zero_le _, upd_same, Same.upd (Same.refl _) hO⟩
      · rintro i Hi _ ⟨_, _, e⟩
        exact SqT.of (e _ _ htr)
      · rintro i x Hi hxi ⟨hi, hOi, e⟩
        have hil : i < rs.length := (List.getElem?_eq_some_iff.mp hxi).1
        obtain ⟨rr, hrr, hTr⟩ := hrs.getM hxi
        obtain ⟨tt', rfl, htt'⟩ := refD_inv hTr
        have hrl : i < ws.length := by omega
        refine ⟨tt', _, rfl, SqT.of (e _ _ htt'), rfl, _, _, rfl, _, _, rfl, rfl, ?_⟩
        refine ⟨rfl, tYes_if ?_⟩
        refine ⟨_, rfl, _, hOi, sizeLt (by rw [List.length_map, List.length_take]; omega), hil, ?_, Same.upd e hO⟩
        rw [upd_same, List.take_succ_eq_append_getElem hrl, List.map_append]
        have er : ws[i] = rr.1 := by
          subst hws
          rw [List.getElem_map]
          rw [(List.getElem?_eq_some_iff.mp hrr).2]
        rw [er]
        rfl
      rintro Hg ⟨_, hOg, eg⟩
      rw [List.take_of_length_le (by omega)] at hOg
      have e3 := e2.trans eg
      have ht3' := eg _ _ ht2
      match r, vr, hvr2, hr1 with
      | [f], _, .cons (v := vf) hf .nil, _ =>
        exact ⟨_, rfl, t, _, rfl, .inr (SqT.of ht3'), rfl, false, rfl, iteF (qS _ _ e3 (S3_col1 hw))⟩
      | [], _, .nil, _ =>
        have hS := S3_col (w := w) (m := m) g hem
        refine ⟨_, rfl, t, _, rfl, .inr (SqT.of ht3'), rfl, true, rfl, iteT ?_⟩
        refine ⟨_, rfl, t, _, _, _, rfl, rfl, SqT.of ht3', atI_nat (j := 0) rfl, sizeL (by show 3 ≤ 100000; decide), fun u hu => ?_⟩
        have r2 := Same.upd (o := .tup [.str "patch", .str "fill", .str "sweep"]) (Same.refl Hg) hu
        have hu1 : upd Hg u (.tup [.str "patch", .str "fill", .str "sweep"]) u = some (.tup [.str "patch", .str "fill", .str "sweep"]) := upd_same
        generalize upd Hg u (.tup [.str "patch", .str "fill", .str "sweep"]) = Hf at *
        have e4 := e3.trans r2
        refine ⟨u, [("patch" : Str), "fill", "sweep"].map V.str, rfl, .inr (SqT.of hu1), rfl, flat_strs _, _, rfl, ?_⟩
        show ite ((if false = true then _ else inV (.str w) ([("patch" : Str), "fill", "sweep"].map V.str)) = true) _ _
        rw [inV_strs]
        refine ite2 (fun k => ?_) (fun k => ?_)
        · refine ⟨_, rfl, t, _, _, _, rfl, rfl, SqT.of (r2 _ _ ht3'), atI_nat (j := 2) rfl, _, rfl, O, ws.map V.str, rfl, .inl (SqL.of (r2 _ _ hOg)), rfl, flat_strs _, ?_⟩
          show Q (.bl (inV (.str m) (ws.map V.str))) _
          rw [inV_strs, hws]
          refine qS _ _ e4 ?_
          rw [hS, show decide (w ∈ [("patch" : Str), "fill", "sweep"]) = true from k]
          rfl
        · have k' : decide (w ∈ [("patch" : Str), "fill", "sweep"]) = false := by simpa using k
          refine qS _ _ e4 ?_
          rw [hS, k']
          rfl
end My
namespace My
open PySem L2
def Part (v : V) : Prop := (∃ x, v = .str x ∧ Nm x) ∨ ∃ b, v = .bl b
def spOddP : Sp := fun vs H Q _ => ∃ (a : Addr) (v : V) (n : Nat), vs = [.ref a, v] ∧ Part v ∧ StAt H a (n + 3) ∧ ∀ u d H', Th (nw H H') u d → d.canLay0 = true → StAt H' a n → Fr1 a H H' → Q u H'
def As (x : Str) : Prop := ∀ c ∈ cd x, c < 128
theorem As.can {x : Str} (h : As x) : (PyData.str x).canLay0 = true := (Fine.str fun c hc => Nat.lt_trans (h c hc) (by decide)).1
theorem As.app {x y : Str} (h : As x) (k : As y) : As (x ++ y) := fun c hc => by
  rw [cd_app] at hc
  rcases List.mem_append.mp hc with m | m
  · exact h c m
  · exact k c m
theorem As.cut {x : Str} (h : As x) (lo hi : Option Int) : As (cutS x lo hi) := fun c hc => by
  unfold cutS at hc
  have hc : c ∈ (((cd x).drop (HT.sIx x.length 0 lo)).take (HT.sIx x.length x.length hi - HT.sIx x.length 0 lo)) := hc
  exact h c (List.mem_of_mem_drop (List.mem_of_mem_take hc))
theorem As.up {x : Str} (h : As x) : As (Txt.upper x) := by
  rw [PyProof.Rows.upper_ascii h]
  intro c hc
  have hc : c ∈ (x.cps.map PyProof.Rows.up1).toList := hc
  rw [Array.toList_map] at hc
  obtain ⟨y, hy, rfl⟩ := List.mem_map.mp hc
  have := h y hy
  unfold PyProof.Rows.up1
  split <;> omega
theorem Nm.as {x : Str} (h : Nm x) : As x := fun c hc => by
  have := h.az c hc
  omega
theorem As.lit {x : Str} (h : ((cd x).all fun c => decide (c < 128)) = true) : As x := fun c hc => of_decide_eq_true (List.all_eq_true.mp h c hc)
theorem cut_le (z : Str) (lo hi : Option Int) : (cutS z lo hi).length ≤ z.length := by
  rw [cd_len, cd_len z]
  show ((((cd z).drop (HT.sIx z.length 0 lo)).take (HT.sIx z.length z.length hi - HT.sIx z.length 0 lo))).length ≤ _
  rw [List.length_take, List.length_drop]
  omega
theorem app_len (x y : Str) : (x ++ y).length = x.length + y.length := by
  rw [cd_len, cd_app, List.length_append, ← cd_len, ← cd_len]
def oddAbc : Str := "abcdefghijklmnopqrstuvwxyzABCXYZ 01>;-"
theorem oddAbc_at : ∀ j : Nat, j < 38 → ∃ c, (cd oddAbc)[j]? = some c ∧ c < 128 := by
  intro j hj
  have hl : (cd oddAbc).length = 38 := by decide +kernel
  have hA : As oddAbc := As.lit (by decide +kernel)
  exact ⟨_, List.getElem?_eq_getElem (by omega), hA _ (List.getElem_mem _)⟩
theorem ok_law_odd_part {P : Program} {w : World} {K : PySem.W.Frag} {mg : Str → Option Value} {base : Heap} {CS CP XCarryError XNoStep XNoKept XNoStops XNotSame XNotSafe XNoFlag XNoStrokes XNothingBegun XNoSchema XNoTable XNoColumn XMissing XNoKey XNoRow XTaken XNotClosed XRefused XNoText XT_MISSING_WORDS XT_COLUMN_STEPS : Addr} (T : Txt K mg CS CP XCarryError XNoStep XNoKept XNoStops XNotSame XNotSafe XNoFlag XNoStrokes XNothingBegun XNoSchema XNoTable XNoColumn XMissing XNoKey XNoRow XTaken XNotClosed XRefused XNoText XT_MISSING_WORDS XT_COLUMN_STEPS) : CallOk P w K mg base 2 "_law_odd_part" spOddP := by
  have c_law_draw := ok_law_draw (P := P) (w := w) (base := base) T
  refine T.d_law_odd_part.ok sc_law_odd_part (fun vs H Q E h => ?_) (fun f cdv A outer s H vs Q E hr h => ?_)
  · obtain ⟨a, v, n, rfl, _⟩ := h
    rfl
  · obtain ⟨a, v, n, rfl, hp, hS, q⟩ := h
    refine ⟨_, (pss_cons (ps_set (i := 2) sc_law_odd_part.nd rfl (by first | exact Or.inl rfl | exact Or.inr rfl) (pe_callC c_law_draw (hr.mono (by decide)) (pa_cons (pv 0) (pa_cons pe_int pa_nil))))
      (pss_cons (ps_if (pt_cmpR op_eq (pv 2) pe_int (nomark _)) (pss_one (ps_ret (pe_ix (kIxL (K := K)) (pe_lst (pa_cons pe_non (pa_cons pe_int (pa_cons pe_int (pa_cons pe_str (pa_cons (pe_tup pa_nil) (pa_cons (pe_lst pa_nil) (pa_cons pe_bl (pa_cons pe_bl (pa_cons pe_str (pa_cons pe_str pa_nil))))))))))) (pe_callC c_law_draw (hr.mono (by decide)) (pa_cons (pv 0) (pa_cons pe_int pa_nil))) (fun _ _ => rfl)))) pss_nil)
      (pss_cons (ps_if (pt_not (pt_val (pe_callB (kIsi (K := K)) (by rfl) T.n_isinstance (by decide +kernel) (pa_cons (pv 1) (pa_cons (pe_bltn (v := .ty "str") (by rfl) T.n_str (by decide +kernel) rfl) pa_nil))))) (pss_one (ps_ret (pe_ix (kIxL (K := K)) (pe_lst (pa_cons pe_int (pa_cons pe_int (pa_cons pe_non (pa_cons pe_str (pa_cons pe_int (pa_cons (pe_not (pv 1)) (pa_cons pe_str pa_nil)))))))) (pv 2) (fun _ _ => rfl)))) pss_nil)
      (pss_cons (ps_set (i := 3) sc_law_odd_part.nd rfl (by first | exact Or.inl rfl | exact Or.inr rfl) (pe_callC c_law_draw (hr.mono (by decide)) (pa_cons (pv 0) (pa_cons (pe_callB call_len_str (by rfl) T.n_len PySem.boot_len (pa_cons (pv 1) pa_nil)) pa_nil))))
      (pss_cons (ps_set (i := 4) sc_law_odd_part.nd rfl (by first | exact Or.inl rfl | exact Or.inr rfl) (pe_ix ix_str pe_str (pe_callC c_law_draw (hr.mono (by decide)) (pa_cons (pv 0) (pa_cons pe_int pa_nil))) (fun _ _ => rfl)))
      (pss_cons (ps_set (i := 5) sc_law_odd_part.nd rfl (by first | exact Or.inl rfl | exact Or.inr rfl) (pe_lst (pa_cons (pe_op op_add_str (pe_op op_add_str (pe_slice sl_str (pv 1) po_none (po_some (pv 3))) (pv 4)) (pe_slice sl_str (pv 1) (po_some (pe_op op_add (pv 3) pe_int)) po_none)) (pa_cons (pe_op op_add_str (pe_slice sl_str (pv 1) po_none (po_some (pv 3))) (pe_slice sl_str (pv 1) (po_some (pe_op op_add (pv 3) pe_int)) po_none)) (pa_cons (pe_op op_add_str (pv 1) (pv 4)) (pa_cons (pe_upper (pv 1)) pa_nil))))))
      (pss_one (ps_ret (pe_ix (kIxL (K := K)) (pe_op op_cat (pv 5) (pe_lst (pa_cons (pe_op op_add_str pe_str (pv 1)) (pa_cons (pe_tup (pa_cons (pv 1) pa_nil)) pa_nil)))) (pv 2) (fun _ _ => rfl)))))))))), ?_⟩
    refine ⟨_, rfl, a, 7, n + 2, rfl, by decide, by decide, hS, fun way G w0 w1 hSG eG => ?_⟩
    obtain ⟨i, rfl⟩ : ∃ i : Nat, way = (i : Int) := ⟨way.toNat, by omega⟩
    refine ⟨_, rfl, rfl, _, rfl, ite2 (fun c0 => ?_) (fun c0 => ?_)⟩
    · refine ⟨sizeL (by show 0 ≤ 100000; decide), fun u hu => ⟨sizeL (by show 0 ≤ 100000; decide), fun w hw => ⟨sizeL (by show 10 ≤ 100000; decide), fun M hM => ?_⟩⟩⟩
      have r1 := Same.upd (o := .tup []) (Same.refl G) hu
      have hu1 : upd G u (.tup []) u = some (.tup []) := upd_same
      generalize upd G u (.tup []) = G1 at *
      have r2 := Same.upd (o := .lst []) (Same.refl G1) hw
      have hw1 : upd G1 w (.lst []) w = some (.lst []) := upd_same
      generalize upd G1 w (.lst []) = G2 at *
      have r3 := Same.upd (o := .lst [.non, .int 0, .int 1, .str "", .ref u, .ref w, .bl true, .bl false, .str "True", .str "load"]) (Same.refl G2) hM
      have hM1 : upd G2 M (.lst [.non, .int 0, .int 1, .str "", .ref u, .ref w, .bl true, .bl false, .str "True", .str "load"]) M = some (.lst [.non, .int 0, .int 1, .str "", .ref u, .ref w, .bl true, .bl false, .str "True", .str "load"]) := upd_same
      generalize upd G2 M (.lst [.non, .int 0, .int 1, .str "", .ref u, .ref w, .bl true, .bl false, .str "True", .str "load"]) = G3 at *
      have r := (r1.trans r2).trans r3
      have hu3 := r3 _ _ (r2 _ _ hu1)
      have hw3 := r3 _ _ hw1
      have hS3 := hSG.same r
      have e3 := eG.trans (Fr1.of r)
      refine ⟨_, rfl, a, 10, n + 1, rfl, by decide, by decide, hS3, fun z G4 z0 z1 hS4 e4 => ?_⟩
      obtain ⟨j, rfl⟩ : ∃ j : Nat, z = (j : Int) := ⟨z.toNat, by omega⟩
      have nM : M ≠ a := ((hSG.same (r1.trans r2)).ne hM).symm
      have nwa : w ≠ a := ((hSG.same r1).ne hw).symm
      have hM4 := e4 _ _ nM hM1
      have hw4 := e4 _ _ nwa hw3
      have hu4 := (hS3.kt e4) _ _ hu3
      have hwH : H w = none := (eG.trans (Fr1.of r1)).free nwa hw
      have kn := nw_kt hS4 (e3.trans e4)
      obtain ⟨vv, d, hv, hT, hcan⟩ : ∃ v d, ([.non, .int 0, .int 1, .str "", .ref u, .ref w, .bl true, .bl false, .str "True", .str "load"] : List V)[j]? = some v ∧ Th (nw H G4) v d ∧ d.canLay0 = true := by
        have hj : j < 10 := by omega
        match j, hj with
        | 0, _ => exact ⟨_, _, rfl, .non, Fine.none.1⟩
        | 1, _ => exact ⟨_, _, rfl, .int _, (Fine.int _).1⟩
        | 2, _ => exact ⟨_, _, rfl, .int _, (Fine.int _).1⟩
        | 3, _ => exact ⟨_, _, rfl, .str _, As.can (As.lit (by decide +kernel))⟩
        | 4, _ => exact ⟨_, _, rfl, .tup (kn _ _ hu4) .nil, (Fine.tup (n := 1) (ds := []) (by simp)).1⟩
        | 5, _ => exact ⟨_, _, rfl, .lst (nw_free hw4 hwH) .nil, (Fine.lst (n := 1) (ds := []) (by simp)).1⟩
        | 6, _ => exact ⟨_, _, rfl, .bl _, (Fine.bool _).1⟩
        | 7, _ => exact ⟨_, _, rfl, .bl _, (Fine.bool _).1⟩
        | 8, _ => exact ⟨_, _, rfl, .str _, As.can (As.lit (by decide +kernel))⟩
        | 9, _ => exact ⟨_, _, rfl, .str _, As.can (As.lit (by decide +kernel))⟩
      exact ⟨M, _, _, vv, rfl, rfl, SqL.of hM4, atI_nat hv, q _ _ _ hT hcan (hS4.mono (by omega)) (e3.trans e4)⟩
    have hi : i < 6 := by
      have : ¬ (i = 6) := fun z => c0 (decide_eq_true (by rw [z]; rfl))
      omega
    rcases hp with ⟨x, rfl, hx⟩ | ⟨b, rfl⟩
    · refine ⟨_, rfl, _, _, _, _, true, rfl, ClsV.ty "str", TyX.base (TyOf.str x), kit_ty (by decide +kernel), true, rfl, iteF ?_⟩
      have hxl : x.length ≤ 8 := by rw [cd_len]; exact hx.l8
      have hx1 : 1 ≤ x.length := by rw [cd_len]; exact hx.lo
      refine ⟨_, rfl, _, rfl, x, rfl, sizeL (by omega), a, _, n + 1, rfl, by omega, by omega, hSG.mono (by omega), fun at_ G1 a0 a1 hS1 e1 => ?_⟩
      obtain ⟨k, rfl⟩ : ∃ k : Nat, at_ = (k : Int) := ⟨at_.toNat, by omega⟩
      refine ⟨_, rfl, a, 38, n, rfl, by decide, by decide, hS1, fun z G2 z0 z1 hS2 e2 => ?_⟩
      obtain ⟨j, rfl⟩ : ∃ j : Nat, z = (j : Int) := ⟨z.toNat, by omega⟩
      obtain ⟨ch, hch, hca⟩ := oddAbc_at j (by omega)
      have hL : As ⟨#[ch]⟩ := fun c hc => by rw [List.mem_singleton.mp hc]; exact hca
      have hll : (⟨#[ch]⟩ : Str).length = 1 := rfl
      refine ⟨oddAbc, _, ch, rfl, rfl, sizeL (by rw [cd_len]; exact (by decide +kernel : (cd oddAbc).length ≤ 100000)), atI_nat hch, ?_⟩
      have hxa := hx.as
      have c1 := cut_le x none (some (k : Int))
      have c2 := cut_le x (some ((k : Int) + 1)) none
      have u1 := PyProof.Rows.len_upper x
      have k1 := hxa.cut none (some (k : Int))
      have k2 := hxa.cut (some ((k : Int) + 1)) none
      have k3 := hxa.up
      refine ⟨_, rfl, _, rfl, _, rfl, _, rfl, sizeL (by omega), _, rfl, _, _, rfl, rfl, sizeL (by rw [hll]; omega), _, rfl, _, rfl, _, _, rfl, rfl, _, rfl, _, rfl, sizeL (by omega), _, _, rfl, rfl, sizeL (by rw [app_len, hll]; omega), ?_⟩
      refine ⟨_, rfl, _, rfl, _, rfl, _, rfl, sizeL (by omega), _, rfl, _, rfl, _, _, rfl, rfl, _, rfl, _, rfl, sizeL (by omega), _, _, rfl, rfl, sizeL (by omega), ?_⟩
      refine ⟨_, rfl, _, rfl, _, _, rfl, rfl, sizeL (by rw [hll]; omega), ?_⟩
      refine ⟨_, rfl, ⟨_, rfl⟩, x, rfl, rfl, by omega, sizeL (by show 4 ≤ 100000; decide), fun M hM => ?_⟩
      obtain ⟨xs, hxs⟩ : ∃ xs : List V, xs = [.str (cutS x none (some (k : Int)) ++ ⟨#[ch]⟩ ++ cutS x (some ((k : Int) + 1)) none), .str (cutS x none (some (k : Int)) ++ cutS x (some ((k : Int) + 1)) none), .str (x ++ ⟨#[ch]⟩), .str (Txt.upper x)] := ⟨_, rfl⟩
      rw [← hxs]
      have r1 := Same.upd (o := .lst xs) (Same.refl G2) hM
      have hM1 : upd G2 M (.lst xs) M = some (.lst xs) := upd_same
      generalize upd G2 M (.lst xs) = G3 at *
      refine ⟨_, rfl, _, rfl, _, _, rfl, rfl, sizeL (by show 1 + x.length ≤ 100000; omega), ?_⟩
      refine ⟨_, rfl, sizeL (by show 1 ≤ 100000; decide), fun u hu => ?_⟩
      have r2 := Same.upd (o := .tup [.str x]) (Same.refl G3) hu
      have hu1 : upd G3 u (.tup [.str x]) u = some (.tup [.str x]) := upd_same
      generalize upd G3 u (.tup [.str x]) = G4 at *
      refine ⟨sizeL (by show 2 ≤ 100000; decide), fun w hw => ?_⟩
      have r3 := Same.upd (o := .lst [.str (" " ++ x), .ref u]) (Same.refl G4) hw
      have hw1 : upd G4 w (.lst [.str (" " ++ x), .ref u]) w = some (.lst [.str (" " ++ x), .ref u]) := upd_same
      generalize upd G4 w (.lst [.str (" " ++ x), .ref u]) = G5 at *
      have hM5 := r3 _ _ (r2 _ _ hM1)
      have hu5 := r3 _ _ hu1
      refine ⟨M, w, _, _, rfl, rfl, hM5, hw1, sizeL (by rw [hxs]; show 6 ≤ 100000; decide), fun c hc => ?_⟩
      have r4 := Same.upd (o := .lst (xs ++ [.str (" " ++ x), .ref u])) (Same.refl G5) hc
      have hc1 : upd G5 c (.lst (xs ++ [.str (" " ++ x), .ref u])) c = some (.lst (xs ++ [.str (" " ++ x), .ref u])) := upd_same
      generalize upd G5 c (.lst (xs ++ [.str (" " ++ x), .ref u])) = G6 at *
      have hu6 := r4 _ _ hu5
      have r := ((r1.trans r2).trans r3).trans r4
      obtain ⟨vv, d, hv, hT, hcan⟩ : ∃ v d, (xs ++ [.str (" " ++ x), .ref u])[i]? = some v ∧ Th (nw H G6) v d ∧ d.canLay0 = true := by
        subst hxs
        match i, hi with
        | 0, _ => exact ⟨_, _, rfl, .str _, ((k1.app hL).app k2).can⟩
        | 1, _ => exact ⟨_, _, rfl, .str _, (k1.app k2).can⟩
        | 2, _ => exact ⟨_, _, rfl, .str _, (hxa.app hL).can⟩
        | 3, _ => exact ⟨_, _, rfl, .str _, k3.can⟩
        | 4, _ => exact ⟨_, _, rfl, .str _, ((As.lit (by decide +kernel)).app hxa).can⟩
        | 5, _ => exact ⟨_, _, rfl, .tup (nw_kt (hS2.same r) (((eG.trans e1).trans e2).trans (Fr1.of r)) _ _ hu6) (.cons (.str _) .nil), (Fine.tup (n := 1) (ds := [.str x]) fun d hd => by rw [List.mem_singleton.mp hd]; exact hx.fine).1⟩
      exact ⟨_, rfl, c, _, _, vv, rfl, rfl, SqL.of hc1, atI_nat hv, q _ _ _ hT hcan (hS2.same r) (((eG.trans e1).trans e2).trans (Fr1.of r))⟩
    · refine ⟨_, rfl, _, _, _, _, false, rfl, ClsV.ty "str", TyX.base (TyOf.bl b), kit_ty (by decide +kernel), false, rfl, iteT ?_⟩
      refine ⟨_, rfl, b, rfl, sizeL (by show 7 ≤ 100000; decide), fun M hM => ?_⟩
      obtain ⟨xs, hxs⟩ : ∃ xs : List V, xs = [.int 0, .int 1, .non, .str "match", .int 2, .bl (!b), .str ""] := ⟨_, rfl⟩
      rw [← hxs]
      have r1 := Same.upd (o := .lst xs) (Same.refl G) hM
      have hM1 : upd G M (.lst xs) M = some (.lst xs) := upd_same
      generalize upd G M (.lst xs) = G3 at *
      obtain ⟨vv, d, hv, hT, hcan⟩ : ∃ v d, xs[i]? = some v ∧ Th (nw H G3) v d ∧ d.canLay0 = true := by
        subst hxs
        match i, hi with
        | 0, _ => exact ⟨_, _, rfl, .int _, (Fine.int _).1⟩
        | 1, _ => exact ⟨_, _, rfl, .int _, (Fine.int _).1⟩
        | 2, _ => exact ⟨_, _, rfl, .non, Fine.none.1⟩
        | 3, _ => exact ⟨_, _, rfl, .str _, As.can (As.lit (by decide +kernel))⟩
        | 4, _ => exact ⟨_, _, rfl, .int _, (Fine.int _).1⟩
        | 5, _ => exact ⟨_, _, rfl, .bl _, (Fine.bool _).1⟩
      exact ⟨_, rfl, M, _, _, vv, rfl, rfl, SqL.of hM1, atI_nat hv, q _ _ _ hT hcan ((hSG.same r1).mono (by omega)) (eG.trans (Fr1.of r1))⟩
end My
namespace My
open PySem L2
def spSpoilt : Sp := fun vs H Q _ => ∃ (a : Addr) (tv v : V) (pl : Plan) (d : PyData) (n : Nat), vs = [.ref a, tv, v] ∧ Td H tv (planD pl) ∧ Good pl ∧ Td H v d ∧ StepD pl d ∧ StAt H a (n + 10) ∧ ∀ u e H', Th (nw H H') u e → e.canLay0 = true → StAt H' a n → Fr1 a H H' → Q u H'
theorem can_mk {ds : List PyData} (h : ∀ d ∈ ds, d.canLay0 = true) : (PyData.tuple ds).canLay0 = true := by
  simp only [PyData.canLay0]
  exact canAll h
theorem Nm.lit {w : Str} (h1 : decide (1 ≤ (cd w).length ∧ (cd w).length ≤ 8) = true) (h2 : ((cd w).all fun c => decide (97 ≤ c) && decide (c ≤ 122)) = true) : Nm w := Nm.of rfl (of_decide_eq_true h1).1 (of_decide_eq_true h1).2 fun c hc => by
  have := List.all_eq_true.mp h2 c hc
  simp only [Bool.and_eq_true, decide_eq_true_eq] at this
  exact this
def PartD (d : PyData) : Prop := (∃ x, d = .str x ∧ Nm x) ∨ ∃ b, d = .bool b
theorem PartD.can {d : PyData} (h : PartD d) : d.canLay0 = true := by
  rcases h with ⟨x, rfl, hx⟩ | ⟨b, rfl⟩
  · exact hx.fine.1
  · exact (Fine.bool b).1
theorem PartD.part {H : Hp} {v : V} {d : PyData} (h : PartD d) (hT : Td H v d) : Part v := by
  rcases h with ⟨x, rfl, hx⟩ | ⟨b, rfl⟩
  · rw [hT.str_inv]; exact .inl ⟨x, rfl, hx⟩
  · rw [hT.bl_inv]; exact .inr ⟨b, rfl⟩
theorem StepD.parts {pl : Plan} {d : PyData} (g : Good pl) (h : StepD pl d) : ∃ ds, d = .tuple ds ∧ 3 ≤ ds.length ∧ ds.length ≤ 4 ∧ ∀ e ∈ ds, PartD e := by
  cases h with
  | load n m b hn hm =>
    refine ⟨_, rfl, by show 3 ≤ 4; decide, by show 4 ≤ 4; decide, fun e he => ?_⟩
    simp only [List.mem_cons, List.not_mem_nil, or_false] at he
    rcases he with rfl | rfl | rfl | rfl
    · exact .inl ⟨_, rfl, Nm.lit (by decide +kernel) (by decide +kernel)⟩
    · obtain ⟨x, hx, rfl⟩ := List.mem_map.mp hn
      exact .inl ⟨_, rfl, g.nm x hx⟩
    · simp only [List.mem_cons, List.not_mem_nil, or_false] at hm
      rcases hm with rfl | rfl | rfl <;> exact .inl ⟨_, rfl, Nm.lit (by decide +kernel) (by decide +kernel)⟩
    · exact .inr ⟨b, rfl⟩
  | col w n c hw hc =>
    refine ⟨_, rfl, by show 3 ≤ 3; decide, by show 3 ≤ 4; decide, fun e he => ?_⟩
    obtain ⟨x, hx, rfl, hc⟩ := hc
    simp only [List.mem_cons, List.not_mem_nil, or_false] at he
    rcases he with rfl | rfl | rfl
    · simp only [List.mem_cons, List.not_mem_nil, or_false] at hw
      rcases hw with rfl | rfl | rfl <;> exact .inl ⟨_, rfl, Nm.lit (by decide +kernel) (by decide +kernel)⟩
    · exact .inl ⟨_, rfl, g.nm x hx⟩
    · obtain ⟨r, hr, rfl⟩ := List.mem_map.mp hc
      exact .inl ⟨_, rfl, (g.refs x hx).nm r hr⟩
theorem cutL_mem {α : Type} {xs : List α} {lo hi : Option Int} {x : α} (h : x ∈ cutL xs lo hi) : x ∈ xs := by
  unfold cutL at h
  exact List.mem_of_mem_drop (List.mem_of_mem_take h)
theorem cutL_len {α : Type} (xs : List α) (lo hi : Option Int) : (cutL xs lo hi).length ≤ xs.length := by
  unfold cutL
  rw [List.length_take, List.length_drop]
  omega
theorem ok_law_spoilt {P : Program} {w : World} {K : PySem.W.Frag} {mg : Str → Option Value} {base : Heap} {CS CP XCarryError XNoStep XNoKept XNoStops XNotSame XNotSafe XNoFlag XNoStrokes XNothingBegun XNoSchema XNoTable XNoColumn XMissing XNoKey XNoRow XTaken XNotClosed XRefused XNoText XT_MISSING_WORDS XT_COLUMN_STEPS : Addr} (T : Txt K mg CS CP XCarryError XNoStep XNoKept XNoStops XNotSame XNotSafe XNoFlag XNoStrokes XNothingBegun XNoSchema XNoTable XNoColumn XMissing XNoKey XNoRow XTaken XNotClosed XRefused XNoText XT_MISSING_WORDS XT_COLUMN_STEPS) : CallOk P w K mg base 3 "_law_spoilt" spSpoilt := by
  have c_law_draw := ok_law_draw (P := P) (w := w) (base := base) T
  have c_law_odd_part := ok_law_odd_part (P := P) (w := w) (base := base) T
  have c_law_step := ok_law_step (P := P) (w := w) (base := base) T
  refine T.d_law_spoilt.ok sc_law_spoilt (fun vs H Q E h => ?_) (fun f cdv A outer s H vs Q E hr h => ?_)
  · obtain ⟨a, tv, v, pl, d, n, rfl, _⟩ := h
    rfl
  · obtain ⟨a, tv, v, pl, d, n, rfl, hT, g, hD, hst, hS, q⟩ := h
    obtain ⟨ds, rfl, d3, d4, hpd⟩ := hst.parts g
    obtain ⟨t, xs, rfl, ht, hx⟩ := hD.tup_inv
    have hlx : xs.length = ds.length := hx.length
    refine ⟨_, (pss_cons (ps_set (i := 3) sc_law_spoilt.nd rfl (by first | exact Or.inl rfl | exact Or.inr rfl) (pe_callC c_law_draw (hr.mono (by decide)) (pa_cons (pv 0) (pa_cons pe_int pa_nil))))
      (pss_cons (ps_set (i := 4) sc_law_spoilt.nd rfl (by first | exact Or.inl rfl | exact Or.inr rfl) (pe_callC c_law_draw (hr.mono (by decide)) (pa_cons (pv 0) (pa_cons (pe_callB (kLen (K := K)) (by rfl) T.n_len PySem.boot_len (pa_cons (pv 2) pa_nil)) pa_nil))))
      (pss_cons (ps_if (pt_cmpR op_eq (pv 3) pe_int (nomark _)) (pss_one (ps_ret (pe_callTy (kList (K := K)) (by rfl) T.n_list (by decide +kernel) (pa_cons (pv 2) pa_nil)))) pss_nil)
      (pss_cons (ps_if (pt_cmpR op_eq (pv 3) pe_int (nomark _)) (pss_one (ps_ret (pe_op op_catD (pe_slice sl_tupD (pv 2) po_none (po_some (pv 4))) (pe_slice sl_tupD (pv 2) (po_some (pe_op op_add (pv 4) pe_int)) po_none)))) pss_nil)
      (pss_cons (ps_if (pt_cmpR op_eq (pv 3) pe_int (nomark _)) (pss_one (ps_ret (pe_op op_catD (pe_op op_catD (pe_slice sl_tupD (pv 2) po_none (po_some (pv 4))) (pe_tup (pa_cons (pe_ix (kIxT (K := K)) (pv 2) (pv 4) (fun _ _ => rfl)) pa_nil))) (pe_slice sl_tupD (pv 2) (po_some (pv 4)) po_none)))) pss_nil)
      (pss_cons (ps_if (pt_cmpR op_eq (pv 3) pe_int (nomark _)) (pss_one (ps_ret (pe_ix (kIxL (K := K)) (pe_lst (pa_cons pe_non (pa_cons pe_int (pa_cons pe_str (pa_cons (pe_tup pa_nil) (pa_cons (pe_lst pa_nil) (pa_cons pe_bl (pa_cons (pe_ix (kIxT (K := K)) (pv 2) pe_int (fun _ _ => rfl)) (pa_cons (pe_tup (pa_cons (pv 2) pa_nil)) pa_nil))))))))) (pe_callC c_law_draw (hr.mono (by decide)) (pa_cons (pv 0) (pa_cons pe_int pa_nil))) (fun _ _ => rfl)))) pss_nil)
      (pss_cons (ps_if (pt_cmpR op_eq (pv 3) pe_int (nomark _)) (pss_cons (ps_set (i := 5) sc_law_spoilt.nd rfl (by first | exact Or.inl rfl | exact Or.inr rfl) (pe_callC c_law_step (hr.mono (by decide)) (pa_cons (pv 0) (pa_cons (pv 1) pa_nil))))
        (pss_one (ps_ret (pe_op op_catD (pe_tup (pa_cons (pe_ix (kIxT (K := K)) (pv 2) pe_int (fun _ _ => rfl)) (pa_cons (pe_ix (kIxT (K := K)) (pv 5) pe_int (fun _ _ => rfl)) pa_nil))) (pe_slice sl_tupD (pv 2) (po_some pe_int) po_none))))) pss_nil)
      (pss_cons (ps_if (pt_cmpR op_eq (pv 3) pe_int (nomark _)) (pss_cons (ps_set (i := 5) sc_law_spoilt.nd rfl (by first | exact Or.inl rfl | exact Or.inr rfl) (pe_ix (kIxT (K := K)) (pv 1) (pe_callC c_law_draw (hr.mono (by decide)) (pa_cons (pv 0) (pa_cons (pe_callB (kLen (K := K)) (by rfl) T.n_len PySem.boot_len (pa_cons (pv 1) pa_nil)) pa_nil))) (fun _ _ => rfl)))
        (pss_cons (ps_set (i := 6) sc_law_spoilt.nd rfl (by first | exact Or.inl rfl | exact Or.inr rfl) (pe_op op_cat (pe_lc (own := [("column", 7), ("table", 8)]) rfl sc_law_spoilt.nd (kPiT (K := K) (pe_ix (kIxT (K := K)) (pv 5) pe_int (fun _ _ => rfl))) (blkOk_by (N := ["store", "tables", "step", "way", "at", "other", "words", "column", "table", "name", "unique", "references"]) (sc := defScope s_law_spoilt) (own := [("column", 7), ("table", 8)]) (by decide +kernel)) (fun _ _ _ _ _ => (kPgT (K := K) (n := 2) rfl (pgs_cons (pg_name (i := 7) sc_law_spoilt.nd rfl (by first | exact Or.inl rfl | exact Or.inr rfl)) (pgs_cons (pg_name (i := 8) sc_law_spoilt.nd rfl (by first | exact Or.inl rfl | exact Or.inr rfl)) pgs_nil)))) (fun _ _ _ _ _ => pts_nil) (fun _ _ _ _ _ => (pv 7))) (pe_lc (own := [("name", 9), ("unique", 10), ("references", 11)]) rfl sc_law_spoilt.nd (kPiT (K := K) (pv 1)) (blkOk_by (N := ["store", "tables", "step", "way", "at", "other", "words", "column", "table", "name", "unique", "references"]) (sc := defScope s_law_spoilt) (own := [("name", 9), ("unique", 10), ("references", 11)]) (by decide +kernel)) (fun _ _ _ _ _ => (kPgT (K := K) (n := 3) rfl (pgs_cons (pg_name (i := 9) sc_law_spoilt.nd rfl (by first | exact Or.inl rfl | exact Or.inr rfl)) (pgs_cons (pg_name (i := 10) sc_law_spoilt.nd rfl (by first | exact Or.inl rfl | exact Or.inr rfl)) (pgs_cons (pg_name (i := 11) sc_law_spoilt.nd rfl (by first | exact Or.inl rfl | exact Or.inr rfl)) pgs_nil))))) (fun _ _ _ _ _ => pts_nil) (fun _ _ _ _ _ => (pv 9)))))
        (pss_one (ps_ret (pe_op op_catD (pe_op op_catD (pe_slice sl_tupD (pv 2) po_none (po_some pe_int)) (pe_tup (pa_cons (pe_ix (kIxL (K := K)) (pv 6) (pe_callC c_law_draw (hr.mono (by decide)) (pa_cons (pv 0) (pa_cons (pe_callB (kLen (K := K)) (by rfl) T.n_len PySem.boot_len (pa_cons (pv 6) pa_nil)) pa_nil))) (fun _ _ => rfl)) pa_nil))) (pe_slice sl_tupD (pv 2) (po_some pe_int) po_none)))))) pss_nil)
      (pss_one (ps_ret (pe_op op_catN (pe_op op_catN (pe_slice sl_tupD (pv 2) po_none (po_some (pv 4))) (pe_tup (pa_cons (pe_callC c_law_odd_part (hr.mono (by decide)) (pa_cons (pv 0) (pa_cons (pe_ix (kIxT (K := K)) (pv 2) (pv 4) (fun _ _ => rfl)) pa_nil))) pa_nil))) (pe_slice sl_tupD (pv 2) (po_some (pe_op op_add (pv 4) pe_int)) po_none)))))))))))), ?_⟩
    refine ⟨_, rfl, a, 8, n + 9, rfl, by decide, by decide, hS, fun way G1 w0 w1 hS1 e1 => ?_⟩
    have ht1 := (hS.kt e1) _ _ ht
    refine ⟨_, rfl, _, rfl, t, _, rfl, .inr (SqT.of ht1), a, _, n + 8, rfl, by omega, by omega, hS1.mono (by omega), fun at_ G a0 a1 hSG e2 => ?_⟩
    obtain ⟨k, rfl⟩ : ∃ k : Nat, at_ = (k : Int) := ⟨at_.toNat, by omega⟩
    have hk : k < xs.length := by omega
    have eG := e1.trans e2
    have ktG := hS.kt eG
    have htG := ktG _ _ ht
    have hxG := hx.mono ktG
    have hTG := hT.mono ktG
    have hDG : Td G (.ref t) (.tuple ds) := .tup htG hxG
    have hcd : ∀ d ∈ ds, d.canLay0 = true := fun d hd => (hpd d hd).can
    have hxk := List.getElem?_eq_getElem hk
    obtain ⟨dk, hdk, hTk⟩ := hxG.get hxk
    have hdkm := List.mem_of_getElem? hdk
    clear hT hD ht hx ht1
    have qd : ∀ u es H', Td H' u (.tuple es) → (∀ e ∈ es, e.canLay0 = true) → Same G H' → Q u H' := fun u es H' h1 h2 h3 => q u _ H' (h1.new (hSG.same h3) (eG.trans (Fr1.of h3))) (can_mk h2) ((hSG.same h3).mono (by omega)) (eG.trans (Fr1.of h3))
    refine ⟨_, rfl, rfl, _, rfl, ite2 (fun c0 => ?_) (fun c0 => ?_)⟩
    · refine ⟨_, rfl, t, _, rfl, .inr (SqT.of htG), fun l hl => ?_⟩
      have r1 := Same.upd (o := .lst xs) (Same.refl G) hl
      have hlH : H l = none := eG.free (hSG.ne hl).symm hl
      have f1 := eG.trans (Fr1.of r1)
      exact q _ (.list ds) _ (.lst (nw_free upd_same hlH) (TdAll.th ((hxG.mono (KT.of r1)).mono (nw_kt (hSG.same r1) f1)))) (by simp only [PyData.canLay0]; exact canAll hcd) ((hSG.same r1).mono (by omega)) f1
    refine ⟨_, rfl, rfl, _, rfl, ite2 (fun c1 => ?_) (fun c1 => ?_)⟩
    · refine ⟨_, rfl, _, rfl, _, rfl, _, hDG, fun v1 K1 f1 T1 => ?_⟩
      refine ⟨_, rfl, _, rfl, _, _, rfl, rfl, _, rfl, _, hDG.kt_same f1, fun v2 K2 f2 T2 => ?_⟩
      have l1 := cutL_len ds none (some (k : Int))
      have l2 := cutL_len ds (some ((k : Int) + 1)) none
      refine ⟨_, _, T1.kt_same f2, T2, by omega, fun v3 K3 f3 T3 => qd _ _ _ T3 (fun e he => ?_) ((f1.trans f2).trans f3)⟩
      rcases List.mem_append.mp he with h | h
      · exact hcd _ (cutL_mem h)
      · exact hcd _ (cutL_mem h)
    refine ⟨_, rfl, rfl, _, rfl, ite2 (fun c2 => ?_) (fun c2 => ?_)⟩
    · refine ⟨_, rfl, _, rfl, _, rfl, _, hDG, fun v1 K1 f1 T1 => ?_⟩
      refine ⟨_, rfl, _, rfl, t, _, _, _, rfl, rfl, SqT.of (f1 _ _ htG), atI_nat hxk, sizeL (by show 1 ≤ 100000; decide), fun y hy => ?_⟩
      have r1 := Same.upd (o := .tup [xs[k]]) (Same.refl K1) hy
      have Ty : Td (upd K1 y (.tup [xs[k]])) (.ref y) (.tuple [dk]) := .tup upd_same (.cons ((hTk.kt_same f1).kt_same r1) .nil)
      generalize upd K1 y (.tup [xs[k]]) = K2 at *
      have l1 := cutL_len ds none (some (k : Int))
      have l2 := cutL_len ds (some (k : Int)) none
      refine ⟨_, _, T1.kt_same r1, Ty, by simp only [List.length_singleton]; omega, fun v3 K3 f3 T3 => ?_⟩
      have f := (f1.trans r1).trans f3
      refine ⟨_, rfl, _, rfl, _, rfl, _, hDG.kt_same f, fun v4 K4 f4 T4 => ?_⟩
      refine ⟨_, _, T3.kt_same f4, T4, by rw [List.length_append, List.length_singleton]; omega, fun v5 K5 f5 T5 => qd _ _ _ T5 (fun e he => ?_) ((f.trans f4).trans f5)⟩
      rcases List.mem_append.mp he with h | h
      · rcases List.mem_append.mp h with h | h
        · exact hcd _ (cutL_mem h)
        · rw [List.mem_singleton.mp h]; exact hcd _ hdkm
      · exact hcd _ (cutL_mem h)
    refine ⟨_, rfl, rfl, _, rfl, ite2 (fun c3 => ?_) (fun c3 => ?_)⟩
    · refine ⟨sizeL (by show 0 ≤ 100000; decide), fun u hu => ?_⟩
      have r1 := Same.upd (o := .tup []) (Same.refl G) hu
      have hu1 : upd G u (.tup []) u = some (.tup []) := upd_same
      generalize upd G u (.tup []) = G1 at *
      refine ⟨sizeL (by show 0 ≤ 100000; decide), fun w hw => ?_⟩
      have r2 := Same.upd (o := .lst []) (Same.refl G1) hw
      have hw1 : upd G1 w (.lst []) w = some (.lst []) := upd_same
      generalize upd G1 w (.lst []) = G2 at *
      have hx0 := List.getElem?_eq_getElem (show 0 < xs.length by omega)
      obtain ⟨d0, hd0, hT0⟩ := hxG.get hx0
      have hd0m := List.mem_of_getElem? hd0
      have htG2 := r2 _ _ (r1 _ _ htG)
      refine ⟨_, rfl, t, _, _, _, rfl, rfl, SqT.of htG2, atI_nat (j := 0) hx0, ?_⟩
      refine ⟨_, rfl, sizeL (by show 1 ≤ 100000; decide), fun y hy => ?_⟩
      have r3 := Same.upd (o := .tup [.ref t]) (Same.refl G2) hy
      have hy1 : upd G2 y (.tup [.ref t]) y = some (.tup [.ref t]) := upd_same
      generalize upd G2 y (.tup [.ref t]) = G3 at *
      refine ⟨sizeL (by show 8 ≤ 100000; decide), fun M hM => ?_⟩
      obtain ⟨ls, hls⟩ : ∃ ls : List V, ls = [.non, .int 0, .str "load", .ref u, .ref w, .bl true, xs[0], .ref y] := ⟨_, rfl⟩
      rw [← hls]
      have r4 := Same.upd (o := .lst ls) (Same.refl G3) hM
      have hM1 : upd G3 M (.lst ls) M = some (.lst ls) := upd_same
      have nwa : w ≠ a := ((hSG.same r1).ne hw).symm
      have nM : M ≠ a := ((hSG.same ((r1.trans r2).trans r3)).ne hM).symm
      generalize upd G3 M (.lst ls) = G4 at *
      have r := ((r1.trans r2).trans r3).trans r4
      have hS4 := hSG.same r
      refine ⟨_, rfl, a, 8, n + 7, rfl, by decide, by decide, hS4, fun z G5 z0 z1 hS5 e5 => ?_⟩
      obtain ⟨j, rfl⟩ : ∃ j : Nat, z = (j : Int) := ⟨z.toNat, by omega⟩
      have kt := hS4.kt e5
      have hM5 := e5 _ _ nM hM1
      have hw5 := e5 _ _ nwa (r4 _ _ (r3 _ _ hw1))
      have hu5 := kt _ _ (r4 _ _ (r3 _ _ (r2 _ _ hu1)))
      have hy5 := kt _ _ (r4 _ _ hy1)
      have ht5 := kt _ _ (r _ _ htG)
      have hx5 := (hxG.mono (KT.of r)).mono kt
      have hT5 := (hT0.kt_same r).mono kt
      have hwH : H w = none := (eG.trans (Fr1.of r1)).free nwa hw
      have kn := nw_kt hS5 ((eG.trans (Fr1.of r)).trans e5)
      obtain ⟨vv, d, hv, hT, hcan⟩ : ∃ v d, ls[j]? = some v ∧ Th (nw H G5) v d ∧ d.canLay0 = true := by
        have hj : j < 8 := by omega
        subst hls
        match j, hj with
        | 0, _ => exact ⟨_, _, rfl, .non, Fine.none.1⟩
        | 1, _ => exact ⟨_, _, rfl, .int _, (Fine.int _).1⟩
        | 2, _ => exact ⟨_, _, rfl, .str _, As.can (As.lit (by decide +kernel))⟩
        | 3, _ => exact ⟨_, _, rfl, .tup (kn _ _ hu5) .nil, can_mk (ds := []) (by simp)⟩
        | 4, _ => exact ⟨_, _, rfl, .lst (nw_free hw5 hwH) .nil, (Fine.lst (n := 1) (ds := []) (by simp)).1⟩
        | 5, _ => exact ⟨_, _, rfl, .bl _, (Fine.bool _).1⟩
        | 6, _ => exact ⟨_, _, rfl, (hT5.mono kn).th, hcd _ hd0m⟩
        | 7, _ => exact ⟨_, _, rfl, .tup (kn _ _ hy5) (.cons (.tup (kn _ _ ht5) (TdAll.th (hx5.mono kn))) .nil), can_mk fun d hd => by rw [List.mem_singleton.mp hd]; exact can_mk hcd⟩
      exact ⟨M, _, _, vv, rfl, rfl, SqL.of hM5, atI_nat hv, q _ _ _ hT hcan (hS5.mono (by omega)) ((eG.trans (Fr1.of r)).trans e5)⟩
    refine ⟨_, rfl, rfl, _, rfl, ite2 (fun c4 => ?_) (fun c4 => ?_)⟩
    · refine ⟨_, rfl, _, rfl, a, tv, pl, n + 3, rfl, hTG, g, hSG, fun sv sd K1 hs1 hsd hSK f1 => ?_⟩
      obtain ⟨es, rfl, es3, es4, hpe⟩ := hsd.parts g
      obtain ⟨t2, ys, rfl, ht2, hy⟩ := hs1.tup_inv
      have hly : ys.length = es.length := hy.length
      have kt := hSG.kt f1
      have ht1 := kt _ _ htG
      have hx1 := hxG.mono kt
      have hD1 : Td K1 (.ref t) (.tuple ds) := .tup ht1 hx1
      have hx0 := List.getElem?_eq_getElem (show 0 < xs.length by omega)
      obtain ⟨d0, hd0, hT0⟩ := hx1.get hx0
      have hy1 := List.getElem?_eq_getElem (show 1 < ys.length by omega)
      obtain ⟨d1, hd1, hT1⟩ := hy.get hy1
      refine ⟨_, rfl, t, _, _, _, rfl, rfl, SqT.of ht1, atI_nat (j := 0) hx0, ?_⟩
      refine ⟨_, rfl, t2, _, _, _, rfl, rfl, SqT.of ht2, atI_nat (j := 1) hy1, sizeL (by show 2 ≤ 100000; decide), fun u hu => ?_⟩
      have r1 := Same.upd (o := .tup [xs[0], ys[1]]) (Same.refl K1) hu
      have Tu : Td (upd K1 u (.tup [xs[0], ys[1]])) (.ref u) (.tuple [d0, d1]) := .tup upd_same (.cons (hT0.kt_same r1) (.cons (hT1.kt_same r1) .nil))
      generalize upd K1 u (.tup [xs[0], ys[1]]) = K2 at *
      refine ⟨_, rfl, _, rfl, _, hD1.kt_same r1, fun v3 K3 f3 T3 => ?_⟩
      have l1 := cutL_len ds (some 2) none
      refine ⟨_, _, Tu.kt_same f3, T3, by show 2 + _ ≤ 1000; omega, fun v4 K4 f4 T4 => ?_⟩
      have r := (r1.trans f3).trans f4
      refine q _ _ _ (T4.new (hSK.same r) ((eG.trans f1).trans (Fr1.of r))) (can_mk fun e he => ?_) ((hSK.same r).mono (by omega)) ((eG.trans f1).trans (Fr1.of r))
      rcases List.mem_append.mp he with h | h
      · simp only [List.mem_cons, List.not_mem_nil, or_false] at h
        rcases h with rfl | rfl
        · exact hcd _ (List.mem_of_getElem? hd0)
        · exact (hpe _ (List.mem_of_getElem? hd1)).can
      · exact hcd _ (cutL_mem h)
    refine ⟨_, rfl, rfl, _, rfl, ite2 (fun c5 => ?_) (fun c5 => ?_)⟩
    · obtain ⟨tt, txs, rfl, htt, htx⟩ := hTG.tup_inv
      have hlt : txs.length = pl.length := by rw [htx.length, List.length_map]
      have hlo := g.lo
      have hhi := g.hi
      refine ⟨_, rfl, _, rfl, _, rfl, tt, _, rfl, .inr (SqT.of htt), a, _, n + 7, rfl, by omega, by omega, hSG.mono (by omega), fun j' K1 j0 j1 hS1 f1 => ?_⟩
      obtain ⟨j, rfl⟩ : ∃ j : Nat, j' = (j : Int) := ⟨j'.toNat, by omega⟩
      have kt1 := hSG.kt f1
      have htt1 := kt1 _ _ htt
      have htx1 := htx.mono kt1
      have hD1 : Td K1 (.ref t) (.tuple ds) := hDG.mono kt1
      have hxj := List.getElem?_eq_getElem (show j < txs.length by omega)
      obtain ⟨en, hen, hTd⟩ := htx1.getM hxj
      obtain ⟨tn, tr, rs, etn, htn, htr, hrs⟩ := entD_inv hTd
      rw [etn] at hxj
      have hem := List.mem_of_getElem? hen
      have gr := g.refs en hem
      have gl3 := gr.len
      have hlr : rs.length = en.2.2.length := by rw [hrs.length, List.length_map]
      obtain ⟨ws, hws⟩ : ∃ ws, ws = en.2.2.map (·.1) := ⟨_, rfl⟩
      have hwl : ws.length = rs.length := by rw [hws, List.length_map, hlr]
      obtain ⟨ns, hns⟩ : ∃ ns, ns = pl.map (·.1) := ⟨_, rfl⟩
      have hnl : ns.length = pl.length := by rw [hns, List.length_map]
      refine ⟨tt, _, _, _, rfl, rfl, SqT.of htt1, atI_nat hxj, ?_⟩
      refine ⟨_, rfl, tn, _, _, _, rfl, rfl, SqT.of htn, atI_nat (j := 2) rfl, tr, rfl, ⟨_, SqT.of htr⟩, fun D hD => lc_tup (K := K) (a := tr) (xs := rs) (fun i Hi => i ≤ rs.length ∧ Hi D = some (.lst ((ws.take i).map V.str)) ∧ Same K1 Hi) ?_ ?_ ?_ ?_⟩
      · exact ⟨Nat.zero_le _, upd_same, Same.upd (Same.refl _) hD⟩
      · rintro i Hi _ ⟨_, _, e⟩
        exact SqT.of (e _ _ htr)
      · rintro i x Hi hxi ⟨hi, hOi, e⟩
        have hil : i < rs.length := (List.getElem?_eq_some_iff.mp hxi).1
        obtain ⟨rr, hrr, hTr⟩ := hrs.getM hxi
        obtain ⟨tt', rfl, htt'⟩ := refD_inv hTr
        have hrl : i < ws.length := by omega
        refine ⟨tt', _, rfl, SqT.of (e _ _ htt'), rfl, _, _, rfl, _, _, rfl, rfl, ?_⟩
        refine ⟨rfl, tYes_if ?_⟩
        refine ⟨_, rfl, _, hOi, sizeLt (by rw [List.length_map, List.length_take]; omega), hil, ?_, Same.upd e hD⟩
        rw [upd_same, List.take_succ_eq_append_getElem hrl, List.map_append]
        have er : ws[i] = rr.1 := by
          subst hws
          rw [List.getElem_map]
          rw [(List.getElem?_eq_some_iff.mp hrr).2]
        rw [er]
        rfl
      rintro K2 ⟨_, hD2, f2⟩
      rw [List.take_of_length_le (by omega)] at hD2
      have htt2 := f2 _ _ htt1
      have htx2 : TdAll K2 txs (pl.map entD) := htx1.mono (KT.of f2)
      refine ⟨_, rfl, tt, rfl, ⟨_, SqT.of htt2⟩, fun O hO => lc_tup (K := K) (a := tt) (xs := txs) (fun i Hi => i ≤ txs.length ∧ Hi O = some (.lst ((ns.take i).map V.str)) ∧ Same K2 Hi) ?_ ?_ ?_ ?_⟩
      · exact ⟨Nat.zero_le _, upd_same, Same.upd (Same.refl _) hO⟩
      · rintro i Hi _ ⟨_, _, e⟩
        exact SqT.of (e _ _ htt2)
      · rintro i x Hi hxi ⟨hi, hOi, e⟩
        have hil : i < txs.length := (List.getElem?_eq_some_iff.mp hxi).1
        obtain ⟨en2, hen2, hTd2⟩ := htx2.getM hxi
        obtain ⟨tn2, tr2, rs2, rfl, htn2, htr2', hrs2'⟩ := entD_inv hTd2
        have hrl : i < ns.length := by omega
        refine ⟨tn2, _, rfl, SqT.of (e _ _ htn2), rfl, _, _, rfl, _, _, rfl, _, _, rfl, rfl, ?_⟩
        refine ⟨rfl, tYes_if ?_⟩
        refine ⟨_, rfl, _, hOi, sizeLt (by rw [List.length_map, List.length_take]; omega), hil, ?_, Same.upd e hO⟩
        rw [upd_same, List.take_succ_eq_append_getElem hrl, List.map_append]
        have er : ns[i] = en2.1 := by
          subst hns
          rw [List.getElem_map]
          rw [(List.getElem?_eq_some_iff.mp hen2).2]
        rw [er]
        rfl
      rintro K3 ⟨_, hO3, f3⟩
      rw [List.take_of_length_le (by omega)] at hO3
      refine ⟨D, O, _, _, rfl, rfl, f3 _ _ hD2, hO3, sizeL (by rw [List.length_map, List.length_map]; omega), fun W hW => ?_⟩
      rw [← List.map_append]
      have hSK3 := hS1.same (f2.trans f3)
      have nW := (hSK3.ne hW).symm
      have r1 := Same.upd (o := .lst ((ws ++ ns).map V.str)) (Same.refl K3) hW
      have hW1 : upd K3 W (.lst ((ws ++ ns).map V.str)) W = some (.lst ((ws ++ ns).map V.str)) := upd_same
      generalize upd K3 W (.lst ((ws ++ ns).map V.str)) = K4 at *
      have r14 := (f2.trans f3).trans r1
      refine ⟨_, rfl, _, rfl, _, hD1.kt_same r14, fun v1 K5 f5 T1 => ?_⟩
      have r15 := r14.trans f5
      have hS5 := hS1.same r15
      have hwn : (ws ++ ns).length = rs.length + pl.length := by rw [List.length_append]; omega
      refine ⟨_, rfl, _, rfl, _, rfl, W, _, rfl, .inl (SqL.of (f5 _ _ hW1)), a, _, n + 6, rfl, by rw [List.length_map]; omega, by rw [List.length_map]; omega, hS5, fun z K6 z0 z1 hS6 f6 => ?_⟩
      obtain ⟨i, rfl⟩ : ∃ i : Nat, z = (i : Int) := ⟨z.toNat, by omega⟩
      rw [List.length_map] at z1
      have hi : i < (ws ++ ns).length := by omega
      have hW6 := f6 _ _ nW (f5 _ _ hW1)
      have kt6 := hS5.kt f6
      have hwi : ((ws ++ ns).map V.str)[i]? = some (.str (ws ++ ns)[i]) := by rw [List.getElem?_map, List.getElem?_eq_getElem hi]; rfl
      have hall : ∀ w ∈ ws ++ ns, Nm w := by
        intro w hw
        subst hws hns
        rcases List.mem_append.mp hw with h | h
        · obtain ⟨r, hr, rfl⟩ := List.mem_map.mp h
          exact gr.nm r hr
        · obtain ⟨x, hx, rfl⟩ := List.mem_map.mp h
          exact g.nm x hx
      have hnm := hall _ (List.getElem_mem hi)
      generalize (ws ++ ns)[i] = wd at *
      refine ⟨W, _, _, _, rfl, rfl, SqL.of hW6, atI_nat hwi, sizeL (by show 1 ≤ 100000; decide), fun u hu => ?_⟩
      have r7 := Same.upd (o := .tup [.str wd]) (Same.refl K6) hu
      have Tu : Td (upd K6 u (.tup [.str wd])) (.ref u) (.tuple [.str wd]) := .tup upd_same (.cons (.str _) .nil)
      generalize upd K6 u (.tup [.str wd]) = K7 at *
      have l1 := cutL_len ds none (some 2)
      have l2 := cutL_len ds (some 3) none
      refine ⟨_, _, (T1.mono kt6).kt_same r7, Tu, by simp only [List.length_singleton]; omega, fun v8 K8 f8 T8 => ?_⟩
      have hD8 := (((hD1.kt_same r15).mono kt6).kt_same r7).kt_same f8
      refine ⟨_, rfl, _, rfl, _, hD8, fun v9 K9 f9 T9 => ?_⟩
      refine ⟨_, _, T8.kt_same f9, T9, by rw [List.length_append, List.length_singleton]; omega, fun v10 K10 f10 T10 => ?_⟩
      have rr := ((r7.trans f8).trans f9).trans f10
      refine q _ _ _ (T10.new (hS6.same rr) ((((eG.trans f1).trans (Fr1.of r15)).trans f6).trans (Fr1.of rr))) (can_mk fun e he => ?_) ((hS6.same rr).mono (by omega)) ((((eG.trans f1).trans (Fr1.of r15)).trans f6).trans (Fr1.of rr))
      rcases List.mem_append.mp he with h | h
      · rcases List.mem_append.mp h with h | h
        · exact hcd _ (cutL_mem h)
        · rw [List.mem_singleton.mp h]; exact hnm.fine.1
      · exact hcd _ (cutL_mem h)
    refine ⟨_, rfl, _, rfl, _, rfl, _, hDG, fun v1 K1 f1 T1 => ?_⟩
    refine ⟨_, rfl, _, rfl, _, rfl, t, _, _, _, rfl, rfl, SqT.of (f1 _ _ htG), atI_nat hxk, a, _, n + 5, rfl, (hpd _ hdkm).part hTk, hSG.same f1, fun u d K2 hTu hcan hSK f2 => ?_⟩
    have kt := (hSG.same f1).kt f2
    have f0 := (eG.trans (Fr1.of f1)).trans f2
    have hTu := hTu.same (nw_back (hSG.same f1) (eG.trans (Fr1.of f1)))
    refine ⟨sizeL (by show 1 ≤ 100000; decide), fun y hy => ?_⟩
    have hyH : H y = none := f0.free (hSK.ne hy).symm hy
    have r1 := Same.upd (o := .tup [u]) (Same.refl K2) hy
    have Ty : Th (nw H (upd K2 y (.tup [u]))) (.ref y) (.tuple [d]) := .tup (nw_free upd_same hyH) (.cons (hTu.same (nw_go r1)) .nil)
    generalize upd K2 y (.tup [u]) = K3 at *
    have hS3 := hSK.same r1
    have f3' := f0.trans (Fr1.of r1)
    have l1 := cutL_len ds none (some (k : Int))
    have l2 := cutL_len ds (some ((k : Int) + 1)) none
    refine ⟨H, _, _, (((T1.mono kt).kt_same r1)).new hS3 f3', Ty, nw_stay hS3 f3', by simp only [List.length_singleton]; omega, fun v3 K4 f3 T3 => ?_⟩
    have hD4 := ((((hDG.kt_same f1).mono kt).kt_same r1).kt_same f3)
    refine ⟨_, rfl, _, rfl, _, _, rfl, rfl, _, rfl, _, hD4, fun v4 K5 f4 T4 => ?_⟩
    have hS5 := (hS3.same f3).same f4
    have f5' := (f3'.trans (Fr1.of f3)).trans (Fr1.of f4)
    refine ⟨H, _, _, T3.same (nw_go f4), T4.new hS5 f5', nw_stay hS5 f5', by rw [List.length_append, List.length_singleton]; omega, fun v5 K6 f5 T5 => ?_⟩
    refine q _ _ _ T5 (can_mk fun e he => ?_) ((hS5.same f5).mono (by omega)) (f5'.trans (Fr1.of f5))
    rcases List.mem_append.mp he with h | h
    · rcases List.mem_append.mp h with h | h
      · exact hcd _ (cutL_mem h)
      · rw [List.mem_singleton.mp h]; exact hcan
    · exact hcd _ (cutL_mem h)
end My
namespace My
open PySem L2
def spOthers (D D2 : Addr) : SpE := fun a c d vs H Q _ => vs = [.ref a] ∧ (c = .ref D ∨ c = .ref D2) ∧ ExD d H ∧ ∀ H', Same H H' → Q (.bl false) H'
theorem ok_law_others {P : Program} {w : World} {K : PySem.W.Frag} {mg : Str → Option Value} {base : Heap} {CS CP XCarryError XNoStep XNoKept XNoStops XNotSame XNotSafe XNoFlag XNoStrokes XNothingBegun XNoSchema XNoTable XNoColumn XMissing XNoKey XNoRow XTaken XNotClosed XRefused XNoText XT_MISSING_WORDS XT_COLUMN_STEPS : Addr} (T : Txt K mg CS CP XCarryError XNoStep XNoKept XNoStops XNotSame XNotSafe XNoFlag XNoStrokes XNothingBegun XNoSchema XNoTable XNoColumn XMissing XNoKey XNoRow XTaken XNotClosed XRefused XNoText XT_MISSING_WORDS XT_COLUMN_STEPS) : CallE P w K mg base 1 "_law_others" (spOthers XNoStep XNoKept) := by
  refine T.d_law_others.okE sc_law_others (fun a c d vs H Q E h => ?_) (fun f cdv A outer s H vs Q E p c d hz hf hr h => ?_)
  · obtain ⟨rfl, _⟩ := h
    rfl
  · obtain ⟨rfl, hc, hd, q⟩ := h
    refine ⟨_, (pss_cons (ps_if (pt_val (pe_callB (kIsPT (K := K) List.mem_cons_self hz hf) (by rfl) T.n_isinstance (by decide +kernel) (pa_cons (pv 0) (pa_cons (pe_tup (pa_cons (pe_glob (v := .ref XMissing) rfl T.m_Missing rfl) (pa_cons (pe_glob (v := .ref XNoColumn) rfl T.m_NoColumn rfl) (pa_cons (pe_glob (v := .ref XNoFlag) rfl T.m_NoFlag rfl) (pa_cons (pe_glob (v := .ref XNoKey) rfl T.m_NoKey rfl) (pa_cons (pe_glob (v := .ref XNoRow) rfl T.m_NoRow rfl) (pa_cons (pe_glob (v := .ref XNoSchema) rfl T.m_NoSchema rfl) (pa_cons (pe_glob (v := .ref XNoStops) rfl T.m_NoStops rfl) (pa_cons (pe_glob (v := .ref XNoStrokes) rfl T.m_NoStrokes rfl) (pa_cons (pe_glob (v := .ref XNoTable) rfl T.m_NoTable rfl) (pa_cons (pe_glob (v := .ref XNoText) rfl T.m_NoText rfl) pa_nil))))))))))) pa_nil)))) (pss_one (ps_ret pe_bl)) pss_nil)
      (pss_one (ps_ret (pe_callB (kIsPT (K := K) List.mem_cons_self hz hf) (by rfl) T.n_isinstance (by decide +kernel) (pa_cons (pv 0) (pa_cons (pe_tup (pa_cons (pe_glob (v := .ref XNotClosed) rfl T.m_NotClosed rfl) (pa_cons (pe_glob (v := .ref XNothingBegun) rfl T.m_NothingBegun rfl) (pa_cons (pe_glob (v := .ref XNotSafe) rfl T.m_NotSafe rfl) (pa_cons (pe_glob (v := .ref XNotSame) rfl T.m_NotSame rfl) (pa_cons (pe_glob (v := .ref XRefused) rfl T.m_Refused rfl) (pa_cons (pe_glob (v := .ref XTaken) rfl T.m_Taken rfl) pa_nil))))))) pa_nil)))))), ?_⟩
    have nf : ∀ {b r : Bool}, b = false → b = true → r = true := fun h1 h2 => by rw [h1] at h2; cases h2
    rcases hc with rfl | rfl
    · refine ⟨_, rfl, sizeL (by show 10 ≤ 100000; decide), fun u hu => ⟨_, _, _, _, false, rfl, rfl, T.xc_NoStep, hd.same (Same.upd (Same.refl _) hu), upd_same, (.cons (.own _) (.cons (.own _) (.cons (.own _) (.cons (.own _) (.cons (.own _) (.cons (.own _) (.cons (.own _) (.cons (.own _) (.cons (.own _) (.cons (.own _) .nil)))))))))), kitAny_cons T.o_NoStep_Missing (fun _ => kitAny_cons T.o_NoStep_NoColumn (fun _ => kitAny_cons T.o_NoStep_NoFlag (fun _ => kitAny_cons T.o_NoStep_NoKey (fun _ => kitAny_cons T.o_NoStep_NoRow (fun _ => kitAny_cons T.o_NoStep_NoSchema (fun _ => kitAny_cons T.o_NoStep_NoStops (fun _ => kitAny_cons T.o_NoStep_NoStrokes (fun _ => kitAny_cons T.o_NoStep_NoTable (fun _ => kitAny_cons T.o_NoStep_NoText (fun _ => kitAny_nil) (nf rfl)) (nf rfl)) (nf rfl)) (nf rfl)) (nf rfl)) (nf rfl)) (nf rfl)) (nf rfl)) (nf rfl)) (nf rfl), false, rfl, iteF ?_⟩⟩
      have t1 := Same.upd (o := .tup [.ref XMissing, .ref XNoColumn, .ref XNoFlag, .ref XNoKey, .ref XNoRow, .ref XNoSchema, .ref XNoStops, .ref XNoStrokes, .ref XNoTable, .ref XNoText]) (Same.refl H) hu
      refine ⟨_, rfl, sizeL (by show 6 ≤ 100000; decide), fun w hw => ⟨_, _, _, _, false, rfl, rfl, T.xc_NoStep, (hd.same t1).same (Same.upd (Same.refl _) hw), upd_same, (.cons (.own _) (.cons (.own _) (.cons (.own _) (.cons (.own _) (.cons (.own _) (.cons (.own _) .nil)))))), kitAny_cons T.o_NoStep_NotClosed (fun _ => kitAny_cons T.o_NoStep_NothingBegun (fun _ => kitAny_cons T.o_NoStep_NotSafe (fun _ => kitAny_cons T.o_NoStep_NotSame (fun _ => kitAny_cons T.o_NoStep_Refused (fun _ => kitAny_cons T.o_NoStep_Taken (fun _ => kitAny_nil) (nf rfl)) (nf rfl)) (nf rfl)) (nf rfl)) (nf rfl)) (nf rfl), ?_⟩⟩
      exact q _ (Same.upd t1 (t1.free hw))
    · refine ⟨_, rfl, sizeL (by show 10 ≤ 100000; decide), fun u hu => ⟨_, _, _, _, false, rfl, rfl, T.xc_NoKept, hd.same (Same.upd (Same.refl _) hu), upd_same, (.cons (.own _) (.cons (.own _) (.cons (.own _) (.cons (.own _) (.cons (.own _) (.cons (.own _) (.cons (.own _) (.cons (.own _) (.cons (.own _) (.cons (.own _) .nil)))))))))), kitAny_cons T.o_NoKept_Missing (fun _ => kitAny_cons T.o_NoKept_NoColumn (fun _ => kitAny_cons T.o_NoKept_NoFlag (fun _ => kitAny_cons T.o_NoKept_NoKey (fun _ => kitAny_cons T.o_NoKept_NoRow (fun _ => kitAny_cons T.o_NoKept_NoSchema (fun _ => kitAny_cons T.o_NoKept_NoStops (fun _ => kitAny_cons T.o_NoKept_NoStrokes (fun _ => kitAny_cons T.o_NoKept_NoTable (fun _ => kitAny_cons T.o_NoKept_NoText (fun _ => kitAny_nil) (nf rfl)) (nf rfl)) (nf rfl)) (nf rfl)) (nf rfl)) (nf rfl)) (nf rfl)) (nf rfl)) (nf rfl)) (nf rfl), false, rfl, iteF ?_⟩⟩
      have t1 := Same.upd (o := .tup [.ref XMissing, .ref XNoColumn, .ref XNoFlag, .ref XNoKey, .ref XNoRow, .ref XNoSchema, .ref XNoStops, .ref XNoStrokes, .ref XNoTable, .ref XNoText]) (Same.refl H) hu
      refine ⟨_, rfl, sizeL (by show 6 ≤ 100000; decide), fun w hw => ⟨_, _, _, _, false, rfl, rfl, T.xc_NoKept, (hd.same t1).same (Same.upd (Same.refl _) hw), upd_same, (.cons (.own _) (.cons (.own _) (.cons (.own _) (.cons (.own _) (.cons (.own _) (.cons (.own _) .nil)))))), kitAny_cons T.o_NoKept_NotClosed (fun _ => kitAny_cons T.o_NoKept_NothingBegun (fun _ => kitAny_cons T.o_NoKept_NotSafe (fun _ => kitAny_cons T.o_NoKept_NotSame (fun _ => kitAny_cons T.o_NoKept_Refused (fun _ => kitAny_cons T.o_NoKept_Taken (fun _ => kitAny_nil) (nf rfl)) (nf rfl)) (nf rfl)) (nf rfl)) (nf rfl)) (nf rfl), ?_⟩⟩
      exact q _ (Same.upd t1 (t1.free hw))
end My
namespace My
open PySem L2
def dueD (pl : Plan) (d f : PyData) : PyData := match d with
  | .tuple ds => match badAt pl 0 ds with
    | some i => .list [.int (i : Int), .bool true, .bool true, .bool false, .bool false]
    | none => if (!PyData.eqv f (.str "out") && !isBoolD f) = true then .list [.int (-1), .bool true, .bool true, .bool false, .bool false] else .list [.none, .bool true, .bool true]
  | _ => .list [.int 0, .bool true, .bool true, .bool false, .bool false]
theorem dueD_no {pl : Plan} {d f : PyData} (h : ∀ ds, d ≠ .tuple ds) : dueD pl d f = .list [.int 0, .bool true, .bool true, .bool false, .bool false] := by
  unfold dueD
  cases d <;> first | rfl | exact absurd rfl (h _)
theorem dueD_some {pl : Plan} {ds : List PyData} {f : PyData} {i : Nat} (h : badAt pl 0 ds = some i) : dueD pl (.tuple ds) f = .list [.int (i : Int), .bool true, .bool true, .bool false, .bool false] := by
  unfold dueD
  simp only
  rw [h]
theorem dueD_none {pl : Plan} {ds : List PyData} {f : PyData} (h : badAt pl 0 ds = none) : dueD pl (.tuple ds) f = if (!PyData.eqv f (.str "out") && !isBoolD f) = true then .list [.int (-1), .bool true, .bool true, .bool false, .bool false] else .list [.none, .bool true, .bool true] := by
  unfold dueD
  simp only
  rw [h]
theorem out_fine : Fine 1 (.str "out") := Nm.fine (Nm.lit (by decide +kernel) (by decide +kernel))
def spDue : Sp := fun vs H Q _ => ∃ (tv v w : V) (pl : Plan) (d f : PyData), vs = [tv, v, w] ∧ Td H tv (planD pl) ∧ Good pl ∧ Th H v d ∧ Th H w f ∧ Fine 2 f ∧ (∀ ds, d = .tuple ds → ds.length ≤ 100) ∧
  ∀ a H' xs ds, H' a = some (.lst xs) → TdAll H' xs ds → dueD pl d f = .list ds → Same H H' → Q (.ref a) H'
theorem ok_law_due {P : Program} {w : World} {K : PySem.W.Frag} {mg : Str → Option Value} {base : Heap} {CS CP XCarryError XNoStep XNoKept XNoStops XNotSame XNotSafe XNoFlag XNoStrokes XNothingBegun XNoSchema XNoTable XNoColumn XMissing XNoKey XNoRow XTaken XNotClosed XRefused XNoText XT_MISSING_WORDS XT_COLUMN_STEPS : Addr} (T : Txt K mg CS CP XCarryError XNoStep XNoKept XNoStops XNotSame XNotSafe XNoFlag XNoStrokes XNothingBegun XNoSchema XNoTable XNoColumn XMissing XNoKey XNoRow XTaken XNotClosed XRefused XNoText XT_MISSING_WORDS XT_COLUMN_STEPS) : CallOk P w K mg base 2 "_law_due" spDue := by
  have c_law_is_step := ok_law_is_step (P := P) (w := w) (base := base) T
  refine T.d_law_due.ok sc_law_due (fun vs H Q E h => ?_) (fun f cdv A outer s H vs Q E hr h => ?_)
  · obtain ⟨tv, v, w, pl, d, f, rfl, _⟩ := h
    rfl
  · obtain ⟨tv, v, w, pl, d, f, rfl, hT, g, hD, hW, hf, hlen, q⟩ := h
    refine ⟨_, (pss_cons (ps_if (pt_not (pt_val (pe_callB (kIsi (K := K)) (by rfl) T.n_isinstance (by decide +kernel) (pa_cons (pv 1) (pa_cons (pe_bltn (v := .ty "tuple") (by rfl) T.n_tuple (by decide +kernel) rfl) pa_nil))))) (pss_one (ps_ret (pe_lst (pa_cons pe_int (pa_cons pe_bl (pa_cons pe_bl (pa_cons pe_bl (pa_cons pe_bl pa_nil)))))))) pss_nil)
      (pss_cons (ps_for PassesOwn.never rfl (pi_range1 (by rfl) T.n_range (pa_cons (pe_callB (kLen (K := K)) (by rfl) T.n_len PySem.boot_len (pa_cons (pv 1) pa_nil)) pa_nil)) (pg_name (i := 3) sc_law_due.nd rfl (by first | exact Or.inl rfl | exact Or.inr rfl))
      (pss_one (ps_if (PW.pt (pw_or (pt_cmpR op_ge (pv 3) pe_int (nomark _)) (pw_or1 (pt_not (pt_val (pe_callC c_law_is_step (hr.mono (by decide)) (pa_cons (pv 0) (pa_cons (pe_ix (kIxT (K := K)) (pv 1) (pv 3) (fun _ _ => rfl)) pa_nil)))))))) (pss_one (ps_ret (pe_lst (pa_cons (pv 3) (pa_cons pe_bl (pa_cons pe_bl (pa_cons pe_bl (pa_cons pe_bl pa_nil)))))))) pss_nil)))
      (pss_cons (ps_if (PW.pt (pw_and (pt_cmpR (kNeD (K := K) hr.units) (pv 2) pe_str (nomark _)) (pw_and1 (pt_not (pt_val (pe_callB (kIsi (K := K)) (by rfl) T.n_isinstance (by decide +kernel) (pa_cons (pv 2) (pa_cons (pe_bltn (v := .ty "bool") (by rfl) T.n_bool (by decide +kernel) rfl) pa_nil)))))))) (pss_one (ps_ret (pe_lst (pa_cons (pe_un un_neg pe_int) (pa_cons pe_bl (pa_cons pe_bl (pa_cons pe_bl (pa_cons pe_bl pa_nil)))))))) pss_nil)
      (pss_one (ps_ret (pe_lst (pa_cons pe_non (pa_cons pe_bl (pa_cons pe_bl pa_nil))))))))), ?_⟩
    have five : ∀ (z : Int) (H' : Hp) (a : Addr), H' a = none → Same H H' → dueD pl d f = .list [.int z, .bool true, .bool true, .bool false, .bool false] → Q (.ref a) (upd H' a (.lst [.int z, .bl true, .bl true, .bl false, .bl false])) := fun z H' a ha e h =>
      q a _ _ _ upd_same (.cons (.int _) (.cons (.bl _) (.cons (.bl _) (.cons (.bl _) (.cons (.bl _) .nil))))) h (Same.upd e (e.free ha))
    by_cases hd : ∃ ds, d = .tuple ds
    case neg =>
      have n : ∀ ds, d ≠ .tuple ds := fun ds e => hd ⟨ds, e⟩
      obtain ⟨ty, hty, ko⟩ := hD.notTup (K := K) n
      exact ⟨_, rfl, _, _, _, _, false, rfl, ClsV.ty "tuple", hty, ko, false, rfl, iteT ⟨sizeL (by show 5 ≤ 100000; decide), fun a ha => five 0 H a ha (Same.refl H) (dueD_no n)⟩⟩
    obtain ⟨ds, rfl⟩ := hd
    have hl100 := hlen ds rfl
    obtain ⟨t, xs, rfl, ht, hx⟩ := hD.tup_inv
    have hlx : xs.length = ds.length := hx.length
    refine ⟨_, rfl, _, _, _, _, true, rfl, ClsV.ty "tuple", TyX.base (TyOf.tup ht), kit_ty (by decide +kernel), true, rfl, iteF ?_⟩
    refine ⟨_, rfl, t, _, rfl, .inr (SqT.of ht), _, rfl, by omega, by omega, for_range (lo := 0) (n := ((xs.length : Int)).toNat) (fun i σ Hk => ∃ o3 : Option V, σ = [some tv, some (.ref t), some w, o3] ∧ i ≤ 20 ∧ badAt pl 0 ds = badAt pl i (ds.drop i) ∧ Same H Hk) ?_ ?_ ?_⟩
    · exact ⟨_, rfl, by decide, rfl, Same.refl _⟩
    · rintro i σ Hi hi ⟨o3, rfl, hi20, hb, e⟩
      have hil : i < xs.length := by omega
      have hxi := List.getElem?_eq_getElem hil
      obtain ⟨d, hd, hTd⟩ := hx.get hxi
      rw [badAt_at hd] at hb
      rw [show (0 : Int) + (i : Int) = (i : Int) by omega]
      refine ⟨_, rfl, _, _, rfl, rfl, _, rfl, ite2 (fun h => ?_) (fun h => ?_)⟩
      · have h20 : 20 ≤ i := by
          have : (20 : Int) ≤ (i : Int) := of_decide_eq_true h
          omega
        rw [if_pos (.inl h20)] at hb
        exact iteT ⟨_, rfl, sizeL (by show 5 ≤ 100000; decide), fun a ha => five _ _ a ha e (dueD_some hb)⟩
      have hi : i < 20 := by
        rcases Nat.lt_or_ge i 20 with z | z
        · exact z
        · exact absurd (decide_eq_true (show (20 : Int) ≤ (i : Int) by omega)) h
      refine ⟨_, rfl, _, rfl, _, rfl, t, _, _, _, rfl, rfl, SqT.of (e _ _ ht), atI_nat hxi, tv, _, pl, d, rfl, hT.kt_same e, g, hTd.same e, fun H2 e2 => ⟨_, rfl, ite2 (fun c => ?_) (fun c => ?_)⟩⟩
      · have c' : stepB pl d = false := by simpa using c
        rw [if_pos (.inr c')] at hb
        exact ⟨_, rfl, sizeL (by show 5 ≤ 100000; decide), fun a ha => five _ _ a ha (e.trans e2) (dueD_some hb)⟩
      · have c' : ¬ (20 ≤ i ∨ stepB pl d = false) := by
          rintro (z | z)
          · omega
          · rw [z] at c
            exact c rfl
        rw [if_neg c'] at hb
        exact ⟨_, rfl, by omega, hb, e.trans e2⟩
    rintro σ Hc ⟨o3, rfl, hi20, hb, e⟩
    rw [show ((xs.length : Int)).toNat = ds.length by omega, badAt_end] at hb
    have hn := dueD_none (f := f) hb
    refine ⟨_, rfl, f, .str "out", (hW.same e).dp, (Td.str _).dp, hf.sh (by decide), out_fine.sh (by decide), _, rfl, ite2 (fun c => ?_) (fun c => ?_)⟩
    · obtain ⟨ty, hty, ko⟩ := (hW.same e).askBool (K := K)
      refine ⟨_, rfl, _, _, _, _, _, rfl, ClsV.ty "bool", hty, ko, _, rfl, ite2 (fun c2 => ?_) (fun c2 => ?_)⟩
      · rw [if_pos (by rw [c, c2]; rfl)] at hn
        exact ⟨_, rfl, sizeL (by show 5 ≤ 100000; decide), fun a ha => five (-1) _ a ha e hn⟩
      · rw [if_neg (by rw [c]; simpa using c2)] at hn
        exact ⟨sizeL (by show 3 ≤ 100000; decide), fun a ha => q a _ _ _ upd_same (.cons .non (.cons (.bl _) (.cons (.bl _) .nil))) hn (Same.upd e (e.free ha))⟩
    · rw [if_neg (by rw [show (!PyData.eqv f (.str "out")) = false by simpa using c]; simp)] at hn
      exact ⟨sizeL (by show 3 ≤ 100000; decide), fun a ha => q a _ _ _ upd_same (.cons .non (.cons (.bl _) (.cons (.bl _) .nil))) hn (Same.upd e (e.free ha))⟩
end My
namespace My
open PySem L2
def spTold (CS : Addr) : Sp := fun vs H Q _ => ∃ (s : Addr) (v w : V) (pl : Plan) (d f : PyData), vs = [.ref s, v, w] ∧ SchAt CS H s pl ∧ Th H v d ∧ d.canLay0 = true ∧ Th H w f ∧ Fine 2 f ∧
  ∀ a H' xs ds, H' a = some (.lst xs) → TdAll H' xs ds → dueD pl d f = .list ds → Same H H' → Q (.ref a) H'
theorem five_fine (z : Int) : Fine 2 (.list [.int z, .bool true, .bool true, .bool false, .bool false]) := Fine.lst (n := 1) fun d hd => by
  simp only [List.mem_cons, List.not_mem_nil, or_false] at hd
  rcases hd with rfl | rfl | rfl | rfl | rfl
  · exact Fine.int _
  · exact Fine.bool _
  · exact Fine.bool _
  · exact Fine.bool _
  · exact Fine.bool _
theorem none_fine : Fine 2 (.list [.none]) := Fine.lst (n := 1) fun d hd => by rw [List.mem_singleton.mp hd]; exact Fine.none
theorem five_none (z : Int) : PyData.eqv (.list [.int z, .bool true, .bool true, .bool false, .bool false]) (.list [.none]) = false := by
  simp [PyData.eqv, PyData.eqvAll]
theorem out_eqv {f : PyData} (h : PyData.eqv f (.str "out") = true) : f = .str "out" := by
  cases f with
  | str x =>
    rw [eqv_str2] at h
    rw [of_decide_eq_true h]
  | none => simp [PyData.eqv] at h
  | bool _ => simp [PyData.eqv] at h
  | int _ => simp [PyData.eqv] at h
  | list _ => simp [PyData.eqv] at h
  | tuple _ => simp [PyData.eqv] at h
  | dict _ => simp [PyData.eqv] at h
theorem ok_law_told {P : Program} {w : World} {K : PySem.W.Frag} {mg : Str → Option Value} {base : Heap} {CS CP XCarryError XNoStep XNoKept XNoStops XNotSame XNotSafe XNoFlag XNoStrokes XNothingBegun XNoSchema XNoTable XNoColumn XMissing XNoKey XNoRow XTaken XNotClosed XRefused XNoText XT_MISSING_WORDS XT_COLUMN_STEPS : Addr} (T : Txt K mg CS CP XCarryError XNoStep XNoKept XNoStops XNotSame XNotSafe XNoFlag XNoStrokes XNothingBegun XNoSchema XNoTable XNoColumn XMissing XNoKey XNoRow XTaken XNotClosed XRefused XNoText XT_MISSING_WORDS XT_COLUMN_STEPS) : CallOk P w K mg base 10 "_law_told" (spTold CS) := by
  have c_Script := ok_Script_init (P := P) (w := w) (base := base) T
  have c_Script_kept := ok_Script_kept (P := P) (w := w) (base := base) T
  have c_Script_steps := ok_Script_steps (P := P) (w := w) (base := base) T
  have c_law_others := ok_law_others (P := P) (w := w) (base := base) T
  refine T.d_law_told.ok sc_law_told (fun vs H Q E h => ?_) (fun f cdv A outer s H vs Q E hr h => ?_)
  · obtain ⟨s, v, w, pl, d, f, rfl, _⟩ := h
    rfl
  · obtain ⟨s, v, w, pl, d, f, rfl, S, hD, hcan, hW, hf, q⟩ := h
    refine ⟨_, (pss_cons (ps_set (i := 3) sc_law_told.nd rfl (by first | exact Or.inl rfl | exact Or.inr rfl) (pe_lst (pa_cons pe_non pa_nil)))
      (pss_cons (ps_set (i := 4) sc_law_told.nd rfl (by first | exact Or.inl rfl | exact Or.inr rfl) pe_non)
      (pss_cons (ps_tryM sc_law_told.nd rfl rfl takes0 (fun W pn xe tk po => (pss_one (ps_set (i := 4) sc_law_told.nd rfl (by first | exact Or.inl rfl | exact Or.inr rfl) (pe_ifExp (pt_cmpR (kEqD (K := K) hr.units) (pv 2) pe_str (nomark _)) (pe_makeD1X c_Script (hr.mono (by decide)) tk (pa_cons (pv 0) (pa_cons (pv 1) pa_nil))) (pe_makeDX c_Script (hr.mono (by decide)) tk (pa_cons (pv 0) (pa_cons (pv 1) (pa_cons (pv 2) pa_nil)))))))) (HdsM.named (i := 6) rfl rfl ⟨rfl, by decide, .inl T.e_NoStep.mg⟩ (fun a oe cls d pn hz hf => (pss_one (ps_set (i := 3) sc_law_told.nd rfl (by first | exact Or.inl rfl | exact Or.inr rfl) (pe_lst (pa_cons (pe_xf T.e_NoStep.xf (T.e_NoStep.no _ (by simp)) hz hf (pv 6)) (pa_cons (pe_callB (kIsP (K := K) List.mem_cons_self hz hf) (by rfl) T.n_isinstance (by decide +kernel) (pa_cons (pv 6) (pa_cons (pe_glob (v := .ref XCarryError) rfl T.b_CarryError.mg rfl) pa_nil))) (pa_cons (pe_callB (kIsP (K := K) List.mem_cons_self hz hf) (by rfl) T.n_isinstance (by decide +kernel) (pa_cons (pv 6) (pa_cons (pe_bltn (v := .ty "ValueError") (by rfl) T.n_ValueError (by decide +kernel) rfl) pa_nil))) (pa_cons (pe_callB (kIsP (K := K) List.mem_cons_self hz hf) (by rfl) T.n_isinstance (by decide +kernel) (pa_cons (pv 6) (pa_cons (pe_glob (v := .ref XNoKept) rfl T.e_NoKept.mg rfl) pa_nil))) (pa_cons (pe_callE c_law_others (roomS (hr.mono (by decide))) List.mem_cons_self hz hf (pa_cons (pv 6) pa_nil)) pa_nil))))))))) (HdsM.named (i := 6) rfl rfl ⟨rfl, by decide, .inl T.e_NoKept.mg⟩ (fun a oe cls d pn hz hf => (pss_one (ps_set (i := 3) sc_law_told.nd rfl (by first | exact Or.inl rfl | exact Or.inr rfl) (pe_lst (pa_cons (pe_un un_neg pe_int) (pa_cons (pe_callB (kIsP (K := K) List.mem_cons_self hz hf) (by rfl) T.n_isinstance (by decide +kernel) (pa_cons (pv 6) (pa_cons (pe_glob (v := .ref XCarryError) rfl T.b_CarryError.mg rfl) pa_nil))) (pa_cons (pe_callB (kIsP (K := K) List.mem_cons_self hz hf) (by rfl) T.n_isinstance (by decide +kernel) (pa_cons (pv 6) (pa_cons (pe_bltn (v := .ty "ValueError") (by rfl) T.n_ValueError (by decide +kernel) rfl) pa_nil))) (pa_cons (pe_callB (kIsP (K := K) List.mem_cons_self hz hf) (by rfl) T.n_isinstance (by decide +kernel) (pa_cons (pv 6) (pa_cons (pe_glob (v := .ref XNoStep) rfl T.e_NoStep.mg rfl) pa_nil))) (pa_cons (pe_callE c_law_others (roomS (hr.mono (by decide))) List.mem_cons_self hz hf (pa_cons (pv 6) pa_nil)) pa_nil))))))))) (HdsM.bare ⟨rfl, by decide, .inl T.b_CarryError.mg⟩ (fun a oe cls d pn hz hf => (pss_one (ps_set (i := 3) sc_law_told.nd rfl (by first | exact Or.inl rfl | exact Or.inr rfl) (pe_lst (pa_cons pe_str pa_nil))))) HdsM.nil))))
      (pss_cons (ps_if (pt_cmpR (kNeD (K := K) hr.units) (pv 3) (pe_lst (pa_cons pe_non pa_nil)) (nomark _)) (pss_one (ps_ret (pv 3))) pss_nil)
      (pss_cons (ps_set (i := 5) sc_law_told.nd rfl (by first | exact Or.inl rfl | exact Or.inr rfl) (pe_or (pe_cmpR (kEqD (K := K) hr.units) (pv 2) pe_str (nomark _)) (pe_one (pe_cmpR op_isAny (pv 2) pe_bl (nomark _)))))
      (pss_one (ps_ret (pe_lst (pa_cons pe_non (pa_cons (pe_cmpR (kEqD (K := K) hr.units) (pe_methC0 (pv 4) c_Script_steps (hr.mono (by decide))) (pv 1) (nomark _)) (pa_cons (pe_and (pe_callB (kIsi (K := K)) (by rfl) T.n_isinstance (by decide +kernel) (pa_cons (pe_propC (pv 4) c_Script_kept (hr.mono (by decide))) (pa_cons (pe_bltn (v := .ty "bool") (by rfl) T.n_bool (by decide +kernel) rfl) pa_nil))) (pe_one (pe_cmpR op_eq (pe_propC (pv 4) c_Script_kept (hr.mono (by decide))) (pv 5) (nomark _)))) pa_nil))))))))))), ?_⟩
    refine ⟨sizeL (by show 1 ≤ 100000; decide), fun u hu => ?_⟩
    have t0 := Same.upd (o := .lst [.non]) (Same.refl H) hu
    have hu1 : upd H u (.lst [.non]) u = some (.lst [.non]) := upd_same
    generalize upd H u (.lst [.non]) = G0 at *
    have S0 := S.same t0
    have hD0 := hD.same t0
    have hW0 := hW.same t0
    refine ⟨_, rfl, f, .str "out", hW0.dp, (Td.str _).dp, hf.sh (by decide), out_fine.sh (by decide), _, rfl, ite2 (fun co => ?_) (fun co => ?_)⟩
    · refine ⟨_, rfl, _, rfl, fun y ydx ny nydx nyex => ?_⟩
      have t := Same.upd (o := .ins CP ydx []) (Same.upd (o := .own y) (Same.refl G0) nydx) ny
      refine ⟨y, s, ydx, v, .bl true, pl, d, .bool true, rfl, S0.same t, hD0.same t, hcan, .bl true, upd_same, fun ds b he hb hbb H5 Sc e5 => ⟨rfl, ?_⟩, fun hn H1 x e1 hx h1x => ?_, fun ds i he hb H1 x e1 hx h1x => ?_, fun ds he hb hk => absurd hk (by decide)⟩
      · subst he
        have t4 := t0.trans (Same.made' ny nydx e5)
        have u5 := (Same.made' ny nydx e5) _ _ hu1
        refine ⟨_, rfl, sizeL (by show 1 ≤ 100000; decide), fun m hm => ?_⟩
        have r1 := Same.upd (o := .lst [.non]) (Same.refl H5) hm
        have hm1 : upd H5 m (.lst [.non]) m = some (.lst [.non]) := upd_same
        generalize upd H5 m (.lst [.non]) = H6 at *
        refine ⟨.list [.none], .list [.none], Dp.lst (SqL.of (r1 _ _ u5)) (.cons .non .nil), Dp.lst (SqL.of hm1) (.cons .non .nil), none_fine.sh (by decide), none_fine.sh (by decide), false, by rw [none_fine.self]; rfl, iteF ?_⟩
        have Sc6 := Sc.same r1
        have t6 := t4.trans r1
        have hW6 := hW.same t6
        have hD6 := hD.same t6
        have sf := steps_fine S.good Sc.st
        obtain ⟨pdx, psp, ptv, p1, _, _⟩ := Sc6.ex
        have no : ∀ {m : Str}, ¬ m = "_kept" → ¬ m = "_steps" → ¬ m = "_schema" → (cFlds psp ptv b).lookup m = none := fun a1 a2 a3 => cFlds_no _ _ _ a1 a2 a3
        have hdue := dueD_none (f := f) hb
        have hbt : b = true := by cases hbb; rfl
        refine ⟨_, rfl, f, .str "out", hW6.dp, (Td.str _).dp, hf.sh (by decide), out_fine.sh (by decide), true, by rw [co], iteT ?_⟩
        rw [if_neg (by rw [co]; simp)] at hdue
        have ekd : decide (V.bl b = V.bl true) = true := by rw [hbt]; decide
        refine ⟨_, rfl, y, pdx, _, rfl, p1, no (by decide +kernel) (by decide +kernel) (by decide +kernel), y, pl, ds, b, rfl, Sc6, fun v2 hv2 => ?_⟩
        refine ⟨_, rfl, .tuple ds, .tuple ds, hv2.dp, hD6.dp, sf.sh (by decide), sf.sh (by decide), ?_⟩
        rw [sf.self]
        refine ⟨_, rfl, y, pdx, _, rfl, p1, y, pl, ds, b, rfl, Sc6, _, _, _, _, true, rfl, ClsV.ty "bool", TyX.base (TyOf.bl b), kit_ty (by decide +kernel), true, rfl, iteT ?_⟩
        refine ⟨_, rfl, y, pdx, _, rfl, p1, y, pl, ds, b, rfl, Sc6, _, rfl, rfl, ?_⟩
        rw [ekd]
        exact ⟨sizeL (by show 3 ≤ 100000; decide), fun L hL => q L _ _ _ upd_same (.cons .non (.cons (.bl _) (.cons (.bl _) .nil))) hdue (Same.upd t6 (t6.free hL))⟩
      · refine ⟨true, T.e_NoStep.exm T.s_NoStep_NoStep, fun _ a ha => ?_, fun z => Bool.noConfusion z⟩
        have xd : ExD (some x) H1 := .inr ⟨x, _, rfl, h1x⟩
        refine ⟨_, rfl, rfl, rfl, x, _, _, rfl, h1x, xd1, _, rfl, XNoStep, _, _, true, rfl, rfl, T.xc_NoStep, xd, .own _, T.o_NoStep_CarryError, _, rfl, XNoStep, _, _, true, rfl, rfl, T.xc_NoStep, xd, .ty "ValueError", T.o_NoStep_ValueError, _, rfl, XNoStep, _, _, false, rfl, rfl, T.xc_NoStep, xd, .own _, T.o_NoStep_NoKept, _, rfl, rfl, .inl rfl, xd, fun H2 e2 => ⟨sizeL (by show 5 ≤ 100000; decide), fun L hL => ?_⟩⟩
        have t1 := ((t0.trans t).trans e1).trans e2
        have r1 := Same.upd (o := .lst [.int 0, .bl true, .bl true, .bl false, .bl false]) (Same.refl H2) hL
        have hL1 : upd H2 L (.lst [.int 0, .bl true, .bl true, .bl false, .bl false]) L = some (.lst [.int 0, .bl true, .bl true, .bl false, .bl false]) := upd_same
        generalize upd H2 L (.lst [.int 0, .bl true, .bl true, .bl false, .bl false]) = G2 at *
        refine ⟨_, rfl, sizeL (by show 1 ≤ 100000; decide), fun m hm => ?_⟩
        have r2 := Same.upd (o := .lst [.non]) (Same.refl G2) hm
        have hm1 : upd G2 m (.lst [.non]) m = some (.lst [.non]) := upd_same
        generalize upd G2 m (.lst [.non]) = G3 at *
        have hL3 := r2 _ _ hL1
        have hT3 : TdAll G3 [.int 0, .bl true, .bl true, .bl false, .bl false] [.int 0, .bool true, .bool true, .bool false, .bool false] := .cons (.int _) (.cons (.bl _) (.cons (.bl _) (.cons (.bl _) (.cons (.bl _) .nil))))
        refine ⟨.list [.int 0, .bool true, .bool true, .bool false, .bool false], .list [.none], Dp.lst (SqL.of hL3) hT3.dp, Dp.lst (SqL.of hm1) (.cons .non .nil), (five_fine _).sh (by decide), none_fine.sh (by decide), true, by rw [five_none]; rfl, iteT ?_⟩
        exact ⟨_, rfl, q L _ _ _ hL3 hT3 (dueD_no hn) ((t1.trans r1).trans r2)⟩
      · subst he
        refine ⟨true, T.e_NoStep.exm T.s_NoStep_NoStep, fun _ a ha => ?_, fun z => Bool.noConfusion z⟩
        have xd : ExD (some x) H1 := .inr ⟨x, _, rfl, h1x⟩
        refine ⟨_, rfl, rfl, rfl, x, _, _, rfl, h1x, xd1, _, rfl, XNoStep, _, _, true, rfl, rfl, T.xc_NoStep, xd, .own _, T.o_NoStep_CarryError, _, rfl, XNoStep, _, _, true, rfl, rfl, T.xc_NoStep, xd, .ty "ValueError", T.o_NoStep_ValueError, _, rfl, XNoStep, _, _, false, rfl, rfl, T.xc_NoStep, xd, .own _, T.o_NoStep_NoKept, _, rfl, rfl, .inl rfl, xd, fun H2 e2 => ⟨sizeL (by show 5 ≤ 100000; decide), fun L hL => ?_⟩⟩
        have t1 := ((t0.trans t).trans e1).trans e2
        have r1 := Same.upd (o := .lst [.int (i : Int), .bl true, .bl true, .bl false, .bl false]) (Same.refl H2) hL
        have hL1 : upd H2 L (.lst [.int (i : Int), .bl true, .bl true, .bl false, .bl false]) L = some (.lst [.int (i : Int), .bl true, .bl true, .bl false, .bl false]) := upd_same
        generalize upd H2 L (.lst [.int (i : Int), .bl true, .bl true, .bl false, .bl false]) = G2 at *
        refine ⟨_, rfl, sizeL (by show 1 ≤ 100000; decide), fun m hm => ?_⟩
        have r2 := Same.upd (o := .lst [.non]) (Same.refl G2) hm
        have hm1 : upd G2 m (.lst [.non]) m = some (.lst [.non]) := upd_same
        generalize upd G2 m (.lst [.non]) = G3 at *
        have hL3 := r2 _ _ hL1
        have hT3 : TdAll G3 [.int (i : Int), .bl true, .bl true, .bl false, .bl false] [.int (i : Int), .bool true, .bool true, .bool false, .bool false] := .cons (.int _) (.cons (.bl _) (.cons (.bl _) (.cons (.bl _) (.cons (.bl _) .nil))))
        refine ⟨.list [.int (i : Int), .bool true, .bool true, .bool false, .bool false], .list [.none], Dp.lst (SqL.of hL3) hT3.dp, Dp.lst (SqL.of hm1) (.cons .non .nil), (five_fine _).sh (by decide), none_fine.sh (by decide), true, by rw [five_none]; rfl, iteT ?_⟩
        exact ⟨_, rfl, q L _ _ _ hL3 hT3 (dueD_some hb) ((t1.trans r1).trans r2)⟩
    · have cof : PyData.eqv f (.str "out") = false := by simpa using co
      refine ⟨_, rfl, _, rfl, _, rfl, fun y ydx ny nydx nyex => ?_⟩
      have t := Same.upd (o := .ins CP ydx []) (Same.upd (o := .own y) (Same.refl G0) nydx) ny
      refine ⟨y, s, ydx, v, w, pl, d, f, rfl, S0.same t, hD0.same t, hcan, hW0.same t, upd_same, fun ds b he hb hbb H5 Sc e5 => ⟨rfl, ?_⟩, fun hn H1 x e1 hx h1x => ?_, fun ds i he hb H1 x e1 hx h1x => ?_, fun ds he hb hk H1 e1 => ?_⟩
      · subst he
        have t4 := t0.trans (Same.made' ny nydx e5)
        have u5 := (Same.made' ny nydx e5) _ _ hu1
        refine ⟨_, rfl, sizeL (by show 1 ≤ 100000; decide), fun m hm => ?_⟩
        have r1 := Same.upd (o := .lst [.non]) (Same.refl H5) hm
        have hm1 : upd H5 m (.lst [.non]) m = some (.lst [.non]) := upd_same
        generalize upd H5 m (.lst [.non]) = H6 at *
        refine ⟨.list [.none], .list [.none], Dp.lst (SqL.of (r1 _ _ u5)) (.cons .non .nil), Dp.lst (SqL.of hm1) (.cons .non .nil), none_fine.sh (by decide), none_fine.sh (by decide), false, by rw [none_fine.self]; rfl, iteF ?_⟩
        have Sc6 := Sc.same r1
        have t6 := t4.trans r1
        have hW6 := hW.same t6
        have hD6 := hD.same t6
        have sf := steps_fine S.good Sc.st
        obtain ⟨pdx, psp, ptv, p1, _, _⟩ := Sc6.ex
        have no : ∀ {m : Str}, ¬ m = "_kept" → ¬ m = "_steps" → ¬ m = "_schema" → (cFlds psp ptv b).lookup m = none := fun a1 a2 a3 => cFlds_no _ _ _ a1 a2 a3
        have hdue := dueD_none (f := f) hb
        subst hbb
        refine ⟨_, rfl, .bool b, .str "out", hW6.dp, (Td.str _).dp, hf.sh (by decide), out_fine.sh (by decide), false, by rw [cof], iteF ?_⟩
        refine ⟨_, rfl, true, .bool b, rfl, hW6, ?_⟩
        rw [if_neg (by show ¬ ((!PyData.eqv (.bool b) (.str "out")) && !true) = true; simp)] at hdue
        have ekd : decide (V.bl b = V.bl (isD true (.bool b))) = true := by cases b <;> decide
        refine ⟨_, rfl, y, pdx, _, rfl, p1, no (by decide +kernel) (by decide +kernel) (by decide +kernel), y, pl, ds, b, rfl, Sc6, fun v2 hv2 => ?_⟩
        refine ⟨_, rfl, .tuple ds, .tuple ds, hv2.dp, hD6.dp, sf.sh (by decide), sf.sh (by decide), ?_⟩
        rw [sf.self]
        refine ⟨_, rfl, y, pdx, _, rfl, p1, y, pl, ds, b, rfl, Sc6, _, _, _, _, true, rfl, ClsV.ty "bool", TyX.base (TyOf.bl b), kit_ty (by decide +kernel), true, rfl, iteT ?_⟩
        refine ⟨_, rfl, y, pdx, _, rfl, p1, y, pl, ds, b, rfl, Sc6, _, rfl, rfl, ?_⟩
        rw [ekd]
        exact ⟨sizeL (by show 3 ≤ 100000; decide), fun L hL => q L _ _ _ upd_same (.cons .non (.cons (.bl _) (.cons (.bl _) .nil))) hdue (Same.upd t6 (t6.free hL))⟩
      · refine ⟨true, T.e_NoStep.exm T.s_NoStep_NoStep, fun _ a ha => ?_, fun z => Bool.noConfusion z⟩
        have xd : ExD (some x) H1 := .inr ⟨x, _, rfl, h1x⟩
        refine ⟨_, rfl, rfl, rfl, x, _, _, rfl, h1x, xd1, _, rfl, XNoStep, _, _, true, rfl, rfl, T.xc_NoStep, xd, .own _, T.o_NoStep_CarryError, _, rfl, XNoStep, _, _, true, rfl, rfl, T.xc_NoStep, xd, .ty "ValueError", T.o_NoStep_ValueError, _, rfl, XNoStep, _, _, false, rfl, rfl, T.xc_NoStep, xd, .own _, T.o_NoStep_NoKept, _, rfl, rfl, .inl rfl, xd, fun H2 e2 => ⟨sizeL (by show 5 ≤ 100000; decide), fun L hL => ?_⟩⟩
        have t1 := ((t0.trans t).trans e1).trans e2
        have r1 := Same.upd (o := .lst [.int 0, .bl true, .bl true, .bl false, .bl false]) (Same.refl H2) hL
        have hL1 : upd H2 L (.lst [.int 0, .bl true, .bl true, .bl false, .bl false]) L = some (.lst [.int 0, .bl true, .bl true, .bl false, .bl false]) := upd_same
        generalize upd H2 L (.lst [.int 0, .bl true, .bl true, .bl false, .bl false]) = G2 at *
        refine ⟨_, rfl, sizeL (by show 1 ≤ 100000; decide), fun m hm => ?_⟩
        have r2 := Same.upd (o := .lst [.non]) (Same.refl G2) hm
        have hm1 : upd G2 m (.lst [.non]) m = some (.lst [.non]) := upd_same
        generalize upd G2 m (.lst [.non]) = G3 at *
        have hL3 := r2 _ _ hL1
        have hT3 : TdAll G3 [.int 0, .bl true, .bl true, .bl false, .bl false] [.int 0, .bool true, .bool true, .bool false, .bool false] := .cons (.int _) (.cons (.bl _) (.cons (.bl _) (.cons (.bl _) (.cons (.bl _) .nil))))
        refine ⟨.list [.int 0, .bool true, .bool true, .bool false, .bool false], .list [.none], Dp.lst (SqL.of hL3) hT3.dp, Dp.lst (SqL.of hm1) (.cons .non .nil), (five_fine _).sh (by decide), none_fine.sh (by decide), true, by rw [five_none]; rfl, iteT ?_⟩
        exact ⟨_, rfl, q L _ _ _ hL3 hT3 (dueD_no hn) ((t1.trans r1).trans r2)⟩
      · subst he
        refine ⟨true, T.e_NoStep.exm T.s_NoStep_NoStep, fun _ a ha => ?_, fun z => Bool.noConfusion z⟩
        have xd : ExD (some x) H1 := .inr ⟨x, _, rfl, h1x⟩
        refine ⟨_, rfl, rfl, rfl, x, _, _, rfl, h1x, xd1, _, rfl, XNoStep, _, _, true, rfl, rfl, T.xc_NoStep, xd, .own _, T.o_NoStep_CarryError, _, rfl, XNoStep, _, _, true, rfl, rfl, T.xc_NoStep, xd, .ty "ValueError", T.o_NoStep_ValueError, _, rfl, XNoStep, _, _, false, rfl, rfl, T.xc_NoStep, xd, .own _, T.o_NoStep_NoKept, _, rfl, rfl, .inl rfl, xd, fun H2 e2 => ⟨sizeL (by show 5 ≤ 100000; decide), fun L hL => ?_⟩⟩
        have t1 := ((t0.trans t).trans e1).trans e2
        have r1 := Same.upd (o := .lst [.int (i : Int), .bl true, .bl true, .bl false, .bl false]) (Same.refl H2) hL
        have hL1 : upd H2 L (.lst [.int (i : Int), .bl true, .bl true, .bl false, .bl false]) L = some (.lst [.int (i : Int), .bl true, .bl true, .bl false, .bl false]) := upd_same
        generalize upd H2 L (.lst [.int (i : Int), .bl true, .bl true, .bl false, .bl false]) = G2 at *
        refine ⟨_, rfl, sizeL (by show 1 ≤ 100000; decide), fun m hm => ?_⟩
        have r2 := Same.upd (o := .lst [.non]) (Same.refl G2) hm
        have hm1 : upd G2 m (.lst [.non]) m = some (.lst [.non]) := upd_same
        generalize upd G2 m (.lst [.non]) = G3 at *
        have hL3 := r2 _ _ hL1
        have hT3 : TdAll G3 [.int (i : Int), .bl true, .bl true, .bl false, .bl false] [.int (i : Int), .bool true, .bool true, .bool false, .bool false] := .cons (.int _) (.cons (.bl _) (.cons (.bl _) (.cons (.bl _) (.cons (.bl _) .nil))))
        refine ⟨.list [.int (i : Int), .bool true, .bool true, .bool false, .bool false], .list [.none], Dp.lst (SqL.of hL3) hT3.dp, Dp.lst (SqL.of hm1) (.cons .non .nil), (five_fine _).sh (by decide), none_fine.sh (by decide), true, by rw [five_none]; rfl, iteT ?_⟩
        exact ⟨_, rfl, q L _ _ _ hL3 hT3 (dueD_some hb) ((t1.trans r1).trans r2)⟩
      · subst he
        have hdue := dueD_none (f := f) hb
        rw [if_pos (by rw [cof, hk]; rfl)] at hdue
        refine ⟨false, T.e_NoStep.exm T.s_NoKept_NoStep, fun z => Bool.noConfusion z, fun _ => ⟨true, T.e_NoKept.exm T.s_NoKept_NoKept, fun _ a ha => ?_, fun z => Bool.noConfusion z⟩⟩
        have xd : ExD none H1 := .inl rfl
        refine ⟨_, rfl, _, rfl, XNoKept, _, _, true, rfl, rfl, T.xc_NoKept, xd, .own _, T.o_NoKept_CarryError, _, rfl, XNoKept, _, _, true, rfl, rfl, T.xc_NoKept, xd, .ty "ValueError", T.o_NoKept_ValueError, _, rfl, XNoKept, _, _, false, rfl, rfl, T.xc_NoKept, xd, .own _, T.o_NoKept_NoStep, _, rfl, rfl, .inr rfl, xd, fun H2 e2 => ⟨sizeL (by show 5 ≤ 100000; decide), fun L hL => ?_⟩⟩
        have t1 := ((t0.trans t).trans e1).trans e2
        have r1 := Same.upd (o := .lst [.int (-1), .bl true, .bl true, .bl false, .bl false]) (Same.refl H2) hL
        have hL1 : upd H2 L (.lst [.int (-1), .bl true, .bl true, .bl false, .bl false]) L = some (.lst [.int (-1), .bl true, .bl true, .bl false, .bl false]) := upd_same
        generalize upd H2 L (.lst [.int (-1), .bl true, .bl true, .bl false, .bl false]) = G2 at *
        refine ⟨_, rfl, sizeL (by show 1 ≤ 100000; decide), fun m hm => ?_⟩
        have r2 := Same.upd (o := .lst [.non]) (Same.refl G2) hm
        have hm1 : upd G2 m (.lst [.non]) m = some (.lst [.non]) := upd_same
        generalize upd G2 m (.lst [.non]) = G3 at *
        have hL3 := r2 _ _ hL1
        have hT3 : TdAll G3 [.int (-1), .bl true, .bl true, .bl false, .bl false] [.int (-1), .bool true, .bool true, .bool false, .bool false] := .cons (.int _) (.cons (.bl _) (.cons (.bl _) (.cons (.bl _) (.cons (.bl _) .nil))))
        refine ⟨.list [.int (-1), .bool true, .bool true, .bool false, .bool false], .list [.none], Dp.lst (SqL.of hL3) hT3.dp, Dp.lst (SqL.of hm1) (.cons .non .nil), (five_fine _).sh (by decide), none_fine.sh (by decide), true, by rw [five_none]; rfl, iteT ?_⟩
        exact ⟨_, rfl, q L _ _ _ hL3 hT3 hdue ((t1.trans r1).trans r2)⟩
end My
namespace My
open PySem L2
def spLaw (K : PySem.W.Frag) : Sp := fun vs H Q _ => ∃ (a : Addr) (ns : List Int), vs = [.ref a] ∧ SqL K H a (ns.map V.int) ∧ ns.length ≤ 63 ∧ ∀ H', Q (.bl true) H'
theorem len_law {K : PySem.W.Frag} : ∀ vs H Q E, spLaw K vs H Q E → vs.length = ["script"].length := by
  rintro vs H Q E ⟨a, ns, rfl, _⟩
  rfl
theorem cut_len (ns : List Int) (lo hi : Nat) : (cutV (ns.map V.int) (some (lo : Int)) (some (hi : Int))).length ≤ hi - lo := by
  show (((ns.map V.int).drop _).take _).length ≤ hi - lo
  rw [List.length_take, HT.sIx_nat, HT.sIx_nat, List.length_drop]
  omega
theorem cut_ints (ns : List Int) (lo hi : Option Int) : ∀ v ∈ cutV (ns.map V.int) lo hi, ∃ z, v = V.int z := fun v hv => by
  have := List.mem_of_mem_drop (List.mem_of_mem_take hv)
  obtain ⟨z, _, e⟩ := List.mem_map.mp this
  exact ⟨z, e.symm⟩
def hide (a b : Addr) (H : Hp) : Hp := fun c => if c = a ∨ c = b then none else H c
section
variable {a b c : Addr} {H H' : Hp} {o : HO}
theorem hide_inv (h : hide a b H c = some o) : c ≠ a ∧ c ≠ b ∧ H c = some o := by
  unfold hide at h
  split at h
  · cases h
  · rename_i k
    exact ⟨fun z => k (.inl z), fun z => k (.inr z), h⟩
theorem hide_of (n1 : c ≠ a) (n2 : c ≠ b) (h : H c = some o) : hide a b H c = some o := by
  unfold hide
  rw [if_neg (by rintro (z | z); exact n1 z; exact n2 z)]
  exact h
theorem hide_same : Same (hide a b H) H := fun _ _ h => (hide_inv h).2.2
theorem hide_fr (e : Fr1 a H H') : Same (hide a b H) (hide a b H') := fun c o h => by
  obtain ⟨n1, n2, h⟩ := hide_inv h
  exact hide_of n1 n2 (e _ _ n1 h)
theorem hide_put {o : HO} : Same (hide a b H) (hide a b (upd H b o)) := fun c o h => by
  obtain ⟨n1, n2, h⟩ := hide_inv h
  exact hide_of n1 n2 (by rw [upd_ne n2]; exact h)
theorem hide_nw {ys zs : List V} (ha : H a = some (.lst ys)) (hb : H b = some (.lst zs)) : Same (nw H H') (hide a b H') := fun c o h => by
  obtain ⟨h1, h2⟩ := nw_inv h
  exact hide_of (fun z => h2 ys (z ▸ ha)) (fun z => h2 zs (z ▸ hb)) h1
theorem hide_kt {ys zs : List V} (ha : H a = some (.lst ys)) (hb : H b = some (.lst zs)) : KT H (hide a b H) := fun c xs h => hide_of (fun z => by rw [z, ha] at h; cases h) (fun z => by rw [z, hb] at h; cases h) h
end
theorem ThAll.setT {H : Hp} {vs : List V} {ds : List PyData} (i : Nat) {v : V} {d : PyData} (h : ThAll H vs ds) (k : Th H v d) : ThAll H (vs.set i v) (ds.set i d) := h.set i k
theorem set_mem {α : Type} {xs : List α} {i : Nat} {x y : α} (h : y ∈ xs.set i x) : y = x ∨ y ∈ xs := by
  rcases List.mem_or_eq_of_mem_set h with h | h
  · exact .inr h
  · exact .inl h
theorem dueD_shape {pl : Plan} {d f : PyData} {ds : List PyData} (h : dueD pl d f = .list ds) : Fine 2 (.list ds) ∧ ∃ d0 r, ds = d0 :: r ∧ (d0 = .none ∨ ∃ z, d0 = .int z) := by
  have three : Fine 2 (.list [.none, .bool true, .bool true]) := Fine.lst (n := 1) fun d hd => by
    simp only [List.mem_cons, List.not_mem_nil, or_false] at hd
    rcases hd with rfl | rfl | rfl
    · exact Fine.none
    · exact Fine.bool _
    · exact Fine.bool _
  by_cases hd : ∃ es, d = .tuple es
  · obtain ⟨es, rfl⟩ := hd
    cases hb : badAt pl 0 es with
    | some i =>
      rw [dueD_some hb] at h
      cases h
      exact ⟨five_fine _, _, _, rfl, .inr ⟨_, rfl⟩⟩
    | none =>
      rw [dueD_none hb] at h
      split at h
      · cases h
        exact ⟨five_fine _, _, _, rfl, .inr ⟨_, rfl⟩⟩
      · cases h
        exact ⟨three, _, _, rfl, .inl rfl⟩
  · rw [dueD_no fun es e => hd ⟨es, e⟩] at h
    cases h
    exact ⟨five_fine _, _, _, rfl, .inr ⟨_, rfl⟩⟩
theorem badAt_good {pl : Plan} : ∀ {ds : List PyData} {i : Nat}, (∀ d ∈ ds, StepD pl d) → i + ds.length ≤ 20 → badAt pl i ds = none
  | [], _, _, _ => rfl
  | d :: r, i, h, l => by
    unfold badAt
    rw [List.length_cons] at l
    rw [if_neg]
    · exact badAt_good (fun x hx => h x (List.mem_cons_of_mem _ hx)) (by omega)
    · rintro (z | z)
      · omega
      · rw [step_stepB (h d List.mem_cons_self)] at z
        cases z
theorem out_self : PyData.eqv (.str "out") (.str "out") = true := out_fine.self
theorem body_law {P : Program} {w : World} {K : PySem.W.Frag} {mg : Str → Option Value} {base : Heap} {CS CP XCarryError XNoStep XNoKept XNoStops XNotSame XNotSafe XNoFlag XNoStrokes XNothingBegun XNoSchema XNoTable XNoColumn XMissing XNoKey XNoRow XTaken XNotClosed XRefused XNoText XT_MISSING_WORDS XT_COLUMN_STEPS : Addr} (T : Txt K mg CS CP XCarryError XNoStep XNoKept XNoStops XNotSame XNotSafe XNoFlag XNoStrokes XNothingBegun XNoSchema XNoTable XNoColumn XMissing XNoKey XNoRow XTaken XNotClosed XRefused XNoText XT_MISSING_WORDS XT_COLUMN_STEPS) : BodyOk P w K mg base 10 ["script", "tables", "store", "lengths", "good", "items", "flag", "passed", "way", "frame", "due", "k", "mended", "size", "told", "at", "cell"] "law" s_law (spLaw K) := by
  have c_Schema := ok_Schema_init (P := P) (w := w) (base := base) T
  have c_Schema_tables := ok_Schema_tables (P := P) (w := w) (base := base) T
  have c_law_cell_at := ok_law_cell_at (P := P) (w := w) (base := base) T
  have c_law_draw := ok_law_draw (P := P) (w := w) (base := base) T
  have c_law_due := ok_law_due (P := P) (w := w) (base := base) T
  have c_law_spoilt := ok_law_spoilt (P := P) (w := w) (base := base) T
  have c_law_step := ok_law_step (P := P) (w := w) (base := base) T
  have c_law_store := ok_law_store (P := P) (w := w) (base := base) T
  have c_law_tables := ok_law_tables (P := P) (w := w) (base := base) T
  have c_law_told := ok_law_told (P := P) (w := w) (base := base) T
  intro f cdv A outer s H vs Q E hr h
  · obtain ⟨a, ns, rfl, hs, hl, q⟩ := h
    refine ⟨_, (pss_cons (ps_set (i := 1) sc_law.nd rfl (by first | exact Or.inl rfl | exact Or.inr rfl) (pe_callC c_law_tables (hr.mono (by decide)) (pa_cons (pe_callC c_law_store (hr.mono (by decide)) (pa_cons (pe_callC c_law_cell_at (hr.mono (by decide)) (pa_cons (pv 0) (pa_cons pe_int pa_nil))) pa_nil)) pa_nil)))
      (pss_cons (ps_set (i := 2) sc_law.nd rfl (by first | exact Or.inl rfl | exact Or.inr rfl) (pe_callC c_law_store (hr.mono (by decide)) (pa_cons (pe_callC c_law_cell_at (hr.mono (by decide)) (pa_cons (pv 0) (pa_cons pe_int pa_nil))) pa_nil)))
      (pss_cons (ps_set (i := 3) sc_law.nd rfl (by first | exact Or.inl rfl | exact Or.inr rfl) (pe_callC c_law_store (hr.mono (by decide)) (pa_cons (pe_callC c_law_cell_at (hr.mono (by decide)) (pa_cons (pv 0) (pa_cons pe_int pa_nil))) pa_nil)))
      (pss_cons (ps_set (i := 4) sc_law.nd rfl (by first | exact Or.inl rfl | exact Or.inr rfl) (pe_lc (own := [("cell", 16)]) rfl sc_law.nd (kPiL (K := K) (pe_slice sl_list (pv 0) (po_some pe_int) (po_some pe_int))) (blkOk_by (N := ["script", "tables", "store", "lengths", "good", "items", "flag", "passed", "way", "frame", "due", "k", "mended", "size", "told", "at", "cell"]) (sc := defScope s_law) (own := [("cell", 16)]) (by decide +kernel)) (fun _ _ _ _ _ => (pg_name (i := 16) sc_law.nd rfl (by first | exact Or.inl rfl | exact Or.inr rfl))) (fun _ _ _ _ _ => pts_nil) (fun _ _ _ _ _ => (pe_callC c_law_step (hr.mono (by decide)) (pa_cons (pe_callC c_law_store (hr.mono (by decide)) (pa_cons (pv 16) pa_nil)) (pa_cons (pv 1) pa_nil))))))
      (Evl.pss_cut (ps_if (PW.pt (pw_and (pt_cmpR op_eq (pe_callC c_law_draw (hr.mono (by decide)) (pa_cons (pv 3) (pa_cons pe_int pa_nil))) pe_int (nomark _)) (pw_and1 (pt_cmpR (kNeD (K := K) hr.units) (pv 4) (pe_lst pa_nil) (nomark _))))) (pss_cons (ps_set (i := 13) sc_law.nd rfl (by first | exact Or.inl rfl | exact Or.inr rfl) (pe_ix (kIxL (K := K)) (pe_op op_cat (pe_lst (pa_cons pe_int (pa_cons pe_int (pa_cons pe_int (pa_cons pe_int (pa_cons pe_int (pa_cons pe_int pa_nil))))))) (pe_lst (pa_cons (pe_callC c_law_draw (hr.mono (by decide)) (pa_cons (pv 3) (pa_cons pe_int pa_nil))) pa_nil))) (pe_callC c_law_draw (hr.mono (by decide)) (pa_cons (pv 3) (pa_cons pe_int pa_nil))) (fun _ _ => rfl)))
        (pss_one (ps_set (i := 4) sc_law.nd rfl (by first | exact Or.inl rfl | exact Or.inr rfl) (pe_lc (own := [("k", 11)]) rfl sc_law.nd (pi_range1 (by rfl) T.n_range (pa_cons (pv 13) pa_nil)) (blkOk_by (N := ["script", "tables", "store", "lengths", "good", "items", "flag", "passed", "way", "frame", "due", "k", "mended", "size", "told", "at", "cell"]) (sc := defScope s_law) (own := [("k", 11)]) (by decide +kernel)) (fun _ _ _ _ _ => (pg_name (i := 11) sc_law.nd rfl (by first | exact Or.inl rfl | exact Or.inr rfl))) (fun _ _ _ _ _ => pts_nil) (fun _ _ _ _ _ => (pe_ix (kIxL (K := K)) (pv 4) (pe_op op_mod (pe_callTy call_int1 (by rfl) T.n_int (by decide +kernel) (pa_cons (pv 11) pa_nil)) (pe_callB (kLen (K := K)) (by rfl) T.n_len PySem.boot_len (pa_cons (pv 4) pa_nil))) (fun _ _ => rfl))))))) pss_nil)
      (pss_cons (ps_set (i := 5) sc_law.nd rfl (by first | exact Or.inl rfl | exact Or.inr rfl) (pe_callTy (kList (K := K)) (by rfl) T.n_list (by decide +kernel) (pa_cons (pv 4) pa_nil)))
      (Evl.pss_cut (ps_if (pt_cmpR (kNeD (K := K) hr.units) (pv 5) (pe_lst pa_nil) (nomark _)) (pss_one (ps_for PassesOwn.never rfl (pi_range1 (by rfl) T.n_range (pa_cons (pe_callC c_law_draw (hr.mono (by decide)) (pa_cons (pv 2) (pa_cons pe_int pa_nil))) pa_nil)) (pg_name (i := 11) sc_law.nd rfl (by first | exact Or.inl rfl | exact Or.inr rfl))
      (pss_cons (ps_set (i := 15) sc_law.nd rfl (by first | exact Or.inl rfl | exact Or.inr rfl) (pe_callC c_law_draw (hr.mono (by decide)) (pa_cons (pv 2) (pa_cons (pe_callB (kLen (K := K)) (by rfl) T.n_len PySem.boot_len (pa_cons (pv 5) pa_nil)) pa_nil))))
          (pss_one (ps_asg (pe_callC c_law_spoilt (hr.mono (by decide)) (pa_cons (pv 2) (pa_cons (pv 1) (pa_cons (pe_ix (kIxL (K := K)) (pv 4) (pv 15) (fun _ _ => rfl)) pa_nil)))) (pg_sub (pv 5) (pv 15) set_list)))))) pss_nil)
      (pss_cons (ps_set (i := 6) sc_law.nd rfl (by first | exact Or.inl rfl | exact Or.inr rfl) (pe_ix (kIxL (K := K)) (pe_lst (pa_cons pe_str (pa_cons pe_bl (pa_cons pe_bl (pa_cons pe_non (pa_cons pe_int (pa_cons pe_int (pa_cons pe_str (pa_cons (pe_tup pa_nil) pa_nil))))))))) (pe_callC c_law_draw (hr.mono (by decide)) (pa_cons (pv 2) (pa_cons pe_int pa_nil))) (fun _ _ => rfl)))
      (pss_cons (ps_set (i := 7) sc_law.nd rfl (by first | exact Or.inl rfl | exact Or.inr rfl) (pe_callTy (kTup (K := K)) (by rfl) T.n_tuple (by decide +kernel) (pa_cons (pv 5) pa_nil)))
      (pss_cons (ps_set (i := 8) sc_law.nd rfl (by first | exact Or.inl rfl | exact Or.inr rfl) (pe_callC c_law_draw (hr.mono (by decide)) (pa_cons (pv 2) (pa_cons pe_int pa_nil))))
      (Evl.pss_cut (ps_if (pt_cmpR op_gt (pv 8) pe_int (nomark _)) (pss_one (ps_set (i := 7) sc_law.nd rfl (by first | exact Or.inl rfl | exact Or.inr rfl) (pe_ix (kIxL (K := K)) (pe_lst (pa_cons (pe_callTy (kList (K := K)) (by rfl) T.n_list (by decide +kernel) (pa_cons (pv 5) pa_nil)) (pa_cons pe_non (pa_cons pe_str pa_nil)))) (pe_op op_sub (pv 8) pe_int) (fun _ _ => rfl)))) pss_nil)
      (pss_cons (ps_set (i := 9) sc_law.nd rfl (by first | exact Or.inl rfl | exact Or.inr rfl) (pe_makeC c_Schema (hr.mono (by decide)) (pa_cons (pv 1) pa_nil)))
      (pss_cons (ps_set (i := 10) sc_law.nd rfl (by first | exact Or.inl rfl | exact Or.inr rfl) (pe_callC c_law_due (hr.mono (by decide)) (pa_cons (pv 1) (pa_cons (pv 7) (pa_cons (pv 6) pa_nil)))))
      (pss_cons (ps_for PassesOwn.never rfl (pi_range1 (by rfl) T.n_range (pa_cons pe_int pa_nil)) (pg_name (i := 11) sc_law.nd rfl (by first | exact Or.inl rfl | exact Or.inr rfl))
      (pss_cons (ps_set (i := 14) sc_law.nd rfl (by first | exact Or.inl rfl | exact Or.inr rfl) (pe_callC c_law_told (hr.mono (by decide)) (pa_cons (pv 9) (pa_cons (pv 7) (pa_cons (pv 6) pa_nil)))))
          (pss_one (ps_if (PW.pt (pw_or (pt_cmpR (kNeD (K := K) hr.units) (pv 14) (pv 10) (nomark _)) (pw_or (pt_val (pe_callB (kIsi (K := K)) (by rfl) T.n_isinstance (by decide +kernel) (pa_cons (pe_ix (kIxL (K := K)) (pv 14) pe_int (fun _ _ => rfl)) (pa_cons (pe_bltn (v := .ty "bool") (by rfl) T.n_bool (by decide +kernel) rfl) pa_nil)))) (pw_or1 (pt_cmpR (kNeD (K := K) hr.units) (pe_methC0 (pv 9) c_Schema_tables (hr.mono (by decide))) (pv 1) (nomark _)))))) (pss_one (ps_ret pe_bl)) pss_nil))))
      (pss_cons (ps_set (i := 12) sc_law.nd rfl (by first | exact Or.inl rfl | exact Or.inr rfl) (pe_callTy (kTup (K := K)) (by rfl) T.n_tuple (by decide +kernel) (pa_cons (pe_slice sl_list (pv 4) po_none (po_some pe_int)) pa_nil)))
      (pss_one (ps_ret (pe_cmpR (kEqD (K := K) hr.units) (pe_callC c_law_told (hr.mono (by decide)) (pa_cons (pv 9) (pa_cons (pv 12) (pa_cons pe_str pa_nil)))) (pe_lst (pa_cons pe_non (pa_cons pe_bl (pa_cons pe_bl pa_nil)))) (nomark _))))))))))))))))))), ?_⟩
    refine ⟨_, rfl, a, ns, 0, rfl, hs, fun z0 => ⟨z0, rfl, fun st0 H1 hst0 e1 hS1 => ⟨st0, 0, rfl, hS1.mono (by decide), fun tv pl H2 hT g _ e2 => ?_⟩⟩⟩
    have s2 : Same H H2 := Same.fr1 e1 e2 hst0
    clear e1 e2 hS1 hst0
    refine ⟨_, rfl, a, ns, 1, rfl, s2.seq hs, fun z1 => ⟨z1, rfl, fun st H3 hst e3 hS3 => ?_⟩⟩
    have hst2 : H2 st = none := hst
    refine ⟨_, rfl, a, ns, 2, rfl, (s2.trans e3).seq hs, fun z2 => ⟨z2, rfl, fun le H4 hle e4 hL4 => ?_⟩⟩
    have nsl : st ≠ le := hS3.ne hle
    have hle2 : H2 le = none := e3.free hle
    have hS4 := hS3.same e4
    have e34 := e3.trans e4
    refine ⟨_, rfl, _, rfl, _, rfl, a, _, rfl, (s2.trans e34).seq hs, fun q1 hq1 => ?_⟩
    have hci := cut_ints ns (some 3) (some 63)
    have hcl3 : (cutV (ns.map V.int) (some 3) (some 63)).length ≤ 60 := cut_len ns 3 63
    generalize cutV (ns.map V.int) (some 3) (some 63) = zs at *
    have t1 := Same.upd (o := .lst zs) (Same.refl H4) hq1
    have hq11 : upd H4 q1 (.lst zs) q1 = some (.lst zs) := upd_same
    generalize upd H4 q1 (.lst zs) = J1 at *
    have hTJ := (hT.kt_same e34).kt_same t1
    refine ⟨q1, rfl, ⟨_, SqL.of hq11⟩, fun D hD => ?_⟩
    have nsD : st ≠ D := (hS4.same t1).ne hD
    have nlD : le ≠ D := (hL4.same t1).ne hD
    refine lc_list (K := K) (a := q1) (xs := zs) (fun i Hi => i ≤ zs.length ∧ ∃ ys ds, Hi D = some (.lst ys) ∧ ys.length = i ∧ TdAll Hi ys ds ∧ (∀ d ∈ ds, StepD pl d) ∧ Same J1 Hi) ?_ ?_ ?_ ?_
    · exact ⟨Nat.zero_le _, [], [], upd_same, rfl, .nil, by simp, Same.upd (Same.refl _) hD⟩
    · rintro i Hi _ ⟨_, _, _, _, _, _, _, e⟩
      exact SqL.of (e _ _ hq11)
    · rintro i y Hi hix ⟨hi, ys, ds, hDi, hyl, hTy, hst', e⟩
      have hil : i < zs.length := (List.getElem?_eq_some_iff.mp hix).1
      obtain ⟨z, rfl⟩ := hci y (List.mem_of_getElem? hix)
      refine ⟨rfl, tYes_if ?_⟩
      refine ⟨_, rfl, z, rfl, fun st1 K1 hst1 f1 hK1 => ⟨_, rfl, st1, tv, pl, 0, rfl, (hTJ.kt_same e).kt_same f1, g, hK1.mono (by decide), fun v d K2 hv hd _ f2 => ?_⟩⟩
      have f12 : Same Hi K2 := Same.fr1 f1 f2 hst1
      refine ⟨ys, f12 _ _ hDi, sizeLt (by omega), hil, ys ++ [v], ds ++ [d], upd_same, by simp [hyl], ?_, fun x hx => ?_, Same.upd (e.trans f12) hD⟩
      · have k3 : KT K2 (upd K2 D (.lst (ys ++ [v]))) := (KT.refl K2).updL (f12 _ _ hDi)
        exact ((hTy.mono (KT.of f12)).mono k3).snoc (hv.mono k3)
      · rcases List.mem_append.mp hx with h | h
        · exact hst' x h
        · rw [List.mem_singleton.mp h]; exact hd
    rintro J2 ⟨_, ys, ds, hDJ, hyl, hTy, hst', eJ⟩
    have w2 : Same H2 J2 := (e34.trans t1).trans eJ
    have hS5 := (hS4.same t1).same eJ
    have hL5 := (hL4.same t1).same eJ
    refine ⟨fun σ' H' => ∃ (o13 : Option V) (R : Addr) (ys : List V) (ds : List PyData), σ' = [some (.ref a), some tv, some (.ref st), some (.ref le), some (.ref R), none, none, none, none, none, none, none, none, o13, none, none, none] ∧ H' R = some (.lst ys) ∧ ys.length ≤ 60 ∧ TdAll H' ys ds ∧ (∀ d ∈ ds, StepD pl d) ∧ StAt H' st 999000 ∧ Same H2 H' ∧ st ≠ R, ?_, ?_⟩
    · refine ⟨_, rfl, le, 2, 999500, rfl, by decide, by decide, hL5.mono (by decide), fun u J3 u0 u1 hL6 f3 => ⟨rfl, _, rfl, ?_⟩⟩
      have k3 := hL5.kt f3
      have hD3 := f3 _ _ nlD.symm hDJ
      have hTy3 := hTy.mono k3
      have hS6 := hS5.fr f3 nsl
      have w3 := Same.fr1 w2 f3 hle2
      refine ite2 (fun _ => ?_) (fun _ => iteF ⟨_, D, ys, ds, rfl, hD3, by omega, hTy3, hst', hS6.mono (by decide), w3, nsD⟩)
      refine ⟨_, rfl, sizeL (by show 0 ≤ 100000; decide), fun w hw => ?_⟩
      have p1 := Same.upd (o := .lst []) (Same.refl J3) hw
      have hw1 : upd J3 w (.lst []) w = some (.lst []) := upd_same
      generalize upd J3 w (.lst []) = J4 at *
      have hD4 := p1 _ _ hD3
      have hTy4 := hTy3.mono (KT.of p1)
      have fds : Fine 3 (.list ds) := Fine.lst (n := 2) fun d hd => (hst' d hd).fine g
      have hly : ys.length = ds.length := hTy.length
      have hS7 := hS6.same p1
      have hL7 := hL6.same p1
      have w4 := w3.trans p1
      refine ⟨_, _, Dp.lst (SqL.of hD4) hTy4.dp, Dp.lst (SqL.of hw1) (TdAll.dp .nil), fds.sh (by decide), (Fine.lst (n := 1) (ds := []) (by simp)).sh (by decide), !ds.isEmpty, by rw [eqv_lists_nil], ?_⟩
      by_cases hds : ds = []
      · subst hds
        exact iteF ⟨_, D, ys, [], rfl, hD4, by omega, hTy4, by simp, hS7.mono (by decide), w4, nsD⟩
      have hemp : (!ds.isEmpty) = true := by
        cases ds with
        | nil => exact absurd rfl hds
        | cons _ _ => rfl
      rw [hemp]
      have hdl : 0 < ds.length := List.length_pos_iff.mpr hds
      refine iteT ⟨sizeL (by show 6 ≤ 100000; decide), fun l1 hl1 => ?_⟩
      have p2 := Same.upd (o := .lst [.int 0, .int 1, .int 19, .int 20, .int 21, .int 22]) (Same.refl J4) hl1
      have hl11 : upd J4 l1 (.lst [.int 0, .int 1, .int 19, .int 20, .int 21, .int 22]) l1 = some (.lst [.int 0, .int 1, .int 19, .int 20, .int 21, .int 22]) := upd_same
      have nl1 := hL7.ne hl1
      generalize upd J4 l1 (.lst [.int 0, .int 1, .int 19, .int 20, .int 21, .int 22]) = J5 at *
      have hL8 := hL7.same p2
      refine ⟨_, rfl, le, 61, 999400, rfl, by decide, by decide, hL8.mono (by decide), fun v J6 v0 v1 hL9 f6 => ?_⟩
      have k6 := hL8.kt f6
      have hl16 := f6 _ _ nl1.symm hl11
      have w6 := Same.fr1 (w4.trans p2) f6 hle2
      have hS9 := (hS7.same p2).fr f6 nsl
      have hD6 := f6 _ _ nlD.symm (p2 _ _ hD4)
      have hTy6 := (hTy4.mono (KT.of p2)).mono k6
      refine ⟨sizeL (by show 1 ≤ 100000; decide), fun l2 hl2 => ?_⟩
      have p3 := Same.upd (o := .lst [.int v]) (Same.refl J6) hl2
      have hl21 : upd J6 l2 (.lst [.int v]) l2 = some (.lst [.int v]) := upd_same
      generalize upd J6 l2 (.lst [.int v]) = J7 at *
      refine ⟨l1, l2, _, _, rfl, rfl, p3 _ _ hl16, hl21, sizeL (by show 7 ≤ 100000; decide), fun l3 hl3 => ?_⟩
      obtain ⟨ls, hls⟩ : ∃ ls : List V, ls = [.int 0, .int 1, .int 19, .int 20, .int 21, .int 22] ++ [.int v] := ⟨_, rfl⟩
      rw [← hls]
      have hL10 := hL9.same p3
      have nl3 := hL10.ne hl3
      have p4 := Same.upd (o := .lst ls) (Same.refl J7) hl3
      have hl31 : upd J7 l3 (.lst ls) l3 = some (.lst ls) := upd_same
      generalize upd J7 l3 (.lst ls) = J8 at *
      have p34 := p3.trans p4
      have hL11 := hL10.same p4
      refine ⟨_, rfl, le, 7, 999300, rfl, by decide, by decide, hL11.mono (by decide), fun j' J9 j0 j1 hL12 f9 => ?_⟩
      obtain ⟨j, rfl⟩ : ∃ j : Nat, j' = (j : Int) := ⟨j'.toNat, by omega⟩
      have k9 := hL11.kt f9
      have w9 := Same.fr1 (w6.trans p34) f9 hle2
      have hS10 := (hS9.same p34).fr f9 nsl
      have hD9 := f9 _ _ nlD.symm (p34 _ _ hD6)
      have hTy9 := (hTy6.mono (KT.of p34)).mono k9
      obtain ⟨m, hm, hm60⟩ : ∃ m : Nat, ls[j]? = some (.int (m : Int)) ∧ m ≤ 60 := by
        have hj : j < 7 := by omega
        subst hls
        match j, hj with
        | 0, _ => exact ⟨0, rfl, by decide⟩
        | 1, _ => exact ⟨1, rfl, by decide⟩
        | 2, _ => exact ⟨19, rfl, by decide⟩
        | 3, _ => exact ⟨20, rfl, by decide⟩
        | 4, _ => exact ⟨21, rfl, by decide⟩
        | 5, _ => exact ⟨22, rfl, by decide⟩
        | 6, _ => exact ⟨v.toNat, by rw [show ((v.toNat : Nat) : Int) = v by omega]; rfl, by omega⟩
      refine ⟨l3, _, _, _, rfl, rfl, SqL.of (f9 _ _ nl3.symm hl31), atI_nat hm, ?_⟩
      refine ⟨_, rfl, _, rfl, by omega, by omega, fun D2 hD2 => ?_⟩
      have nsD2 : st ≠ D2 := hS10.ne hD2
      refine lc_range (lo := 0) (n := ((m : Int)).toNat) (fun i Hi => ∃ ws es, Hi D2 = some (.lst ws) ∧ ws.length = i ∧ TdAll Hi ws es ∧ (∀ e ∈ es, StepD pl e) ∧ Same J9 Hi) ?_ ?_ ?_
      · exact ⟨[], [], upd_same, rfl, .nil, by simp, Same.upd (Same.refl _) hD2⟩
      · rintro i Hi hi ⟨ws, es, hw2, hwl, hTw, hes, e⟩
        have hDi := e _ _ hD9
        have hTi := hTy9.mono (KT.of e)
        refine ⟨rfl, tYes_if ?_⟩
        obtain ⟨m, hm⟩ : ∃ m : Nat, (0 + (i : Int)) % ((ys.length : Nat) : Int) = (m : Int) := ⟨((0 + (i : Int)) % ((ys.length : Nat) : Int)).toNat, by have := Int.emod_nonneg (0 + (i : Int)) (b := ((ys.length : Nat) : Int)) (by omega); omega⟩
        have hml : m < ys.length := by
          have := Int.emod_lt_of_pos (0 + (i : Int)) (b := ((ys.length : Nat) : Int)) (by omega)
          omega
        obtain ⟨d, hd, hdT⟩ := hTi.get (List.getElem?_eq_getElem hml)
        refine ⟨_, rfl, _, rfl, .inl ⟨_, rfl, _, rfl, D, ys, rfl, .inl (SqL.of hDi), _, _, rfl, rfl, (by show (0 : Int) < ((ys.length : Nat) : Int); omega), D, ys, _, ys[m], rfl, rfl, SqL.of hDi, (by show atI ys ((0 + (i : Int)) % ((ys.length : Nat) : Int)) = _; rw [hm]; exact atI_nat (List.getElem?_eq_getElem hml)), ws, hw2, sizeLt (by omega), ?_⟩⟩
        have k6 : KT Hi (upd Hi D2 (.lst (ws ++ [ys[m]]))) := (KT.refl Hi).updL hw2
        refine ⟨ws ++ [ys[m]], es ++ [d], upd_same, by simp [hwl], (hTw.mono k6).snoc (hdT.mono k6), fun y hy => ?_, Same.upd e hD2⟩
        rcases List.mem_append.mp hy with h | h
        · exact hes y h
        · rw [List.mem_singleton.mp h]; exact hst' _ (List.mem_of_getElem? hd)
      · rintro Hi ⟨ws, es, hw2, hwl, hTw, hes, e⟩
        exact ⟨_, D2, ws, es, rfl, hw2, by omega, hTw, hes, (hS10.same e).mono (by decide), w9.trans e, nsD2⟩
    rintro σ' G0 ⟨o13, R, ys, ds, rfl, hR0, hyl, hTy0, hds, hS0, sk0, nsR⟩
    clear hTy hDJ hst' hS5 hL5 w2
    refine ⟨_, rfl, R, ys, rfl, .inl (SqL.of hR0), fun I hI => ?_⟩
    have nsI : st ≠ I := hS0.ne hI
    have hI2 : H2 I = none := sk0.free hI
    have nRI : R ≠ I := ne_of_none hR0 hI
    have r1 := Same.upd (o := .lst ys) (Same.refl G0) hI
    have hI1 : upd G0 I (.lst ys) I = some (.lst ys) := upd_same
    generalize upd G0 I (.lst ys) = G1 at *
    have hR1 := r1 _ _ hR0
    have hTy1 := hTy0.mono (KT.of r1)
    have hS1 := hS0.same r1
    have sk1 := sk0.trans r1
    obtain ⟨sts, hsts⟩ := hS1.lst
    have hTh1 : ThAll (hide st I G1) ys ds := TdAll.th (hTy1.mono (hide_kt hsts hI1))
    have hlyd : ys.length = ds.length := hTy1.length
    have hcd : ∀ d ∈ ds, d.canLay0 = true := fun d hd => ((hds d hd).fine g).1
    clear hR0 hTy0 hS0 sk0 hsts
    refine ⟨fun σ' H' => ∃ (o11 o15 : Option V) (zs : List V) (es : List PyData), σ' = [some (.ref a), some tv, some (.ref st), some (.ref le), some (.ref R), some (.ref I), none, none, none, none, none, o11, none, o13, none, o15, none] ∧ H' I = some (.lst zs) ∧ zs.length = ys.length ∧ ThAll (hide st I H') zs es ∧ (∀ e ∈ es, e.canLay0 = true) ∧ H' R = some (.lst ys) ∧ TdAll H' ys ds ∧ StAt H' st 990000 ∧ Same H2 H', ?_, ?_⟩
    · refine ⟨_, rfl, sizeL (by show 0 ≤ 100000; decide), fun w hw => ?_⟩
      have p1 := Same.upd (o := .lst []) (Same.refl G1) hw
      have hw1 : upd G1 w (.lst []) w = some (.lst []) := upd_same
      generalize upd G1 w (.lst []) = G2 at *
      have hI3 := p1 _ _ hI1
      have hR3 := p1 _ _ hR1
      have hTy3 := hTy1.mono (KT.of p1)
      have hS3' := hS1.same p1
      have sk3 := sk1.trans p1
      have hTh3 : ThAll (hide st I G2) ys ds := hTh1.same (hide_fr (Fr1.of p1))
      have fds : Fine 3 (.list ds) := Fine.lst (n := 2) fun d hd => (hds d hd).fine g
      refine ⟨_, _, Dp.lst (SqL.of hI3) hTy3.dp, Dp.lst (SqL.of hw1) (TdAll.dp .nil), fds.sh (by decide), (Fine.lst (n := 1) (ds := []) (by simp)).sh (by decide), !ds.isEmpty, by rw [eqv_lists_nil], ?_⟩
      by_cases hdn : ds = []
      · rw [show (!ds.isEmpty) = false by rw [hdn]; rfl]
        exact iteF ⟨_, _, ys, ds, rfl, hI3, rfl, hTh3, hcd, hR3, hTy3, hS3'.mono (by decide), sk3⟩
      have hemp : (!ds.isEmpty) = true := by
        cases ds with
        | nil => exact absurd rfl hdn
        | cons _ _ => rfl
      rw [hemp]
      have hdl : 0 < ds.length := List.length_pos_iff.mpr hdn
      refine iteT ⟨_, rfl, st, 4, 998000, rfl, by decide, by decide, hS3'.mono (by decide), fun many G3 m0 m1 hS4 f4 => ?_⟩
      have k4 := hS3'.kt f4
      refine ⟨_, rfl, by omega, by omega, for_range (lo := 0) (n := many.toNat) (fun i σ Hi => ∃ (o11 o15 : Option V) (zs : List V) (es : List PyData), σ = [some (.ref a), some tv, some (.ref st), some (.ref le), some (.ref R), some (.ref I), none, none, none, none, none, o11, none, o13, none, o15, none] ∧ Hi I = some (.lst zs) ∧ zs.length = ys.length ∧ ThAll (hide st I Hi) zs es ∧ (∀ e ∈ es, e.canLay0 = true) ∧ Hi R = some (.lst ys) ∧ TdAll Hi ys ds ∧ StAt Hi st (998000 - 20 * i) ∧ Same H2 Hi) ?_ ?_ ?_⟩
      · exact ⟨_, _, ys, ds, rfl, f4 _ _ nsI.symm hI3, rfl, hTh3.same (hide_fr f4), hcd, f4 _ _ nsR.symm hR3, hTy3.mono k4, hS4, Same.fr1 sk3 f4 hst2⟩
      · rintro i σ Hi hi ⟨o11, o15, zs, es, rfl, hIi, hzl, hTz, hce, hRi, hTi, hSi, ski⟩
        have hi4 : i < 4 := by omega
        refine ⟨_, rfl, _, rfl, I, zs, rfl, .inl (SqL.of hIi), st, _, 998000 - 20 * i - 1, rfl, by omega, by omega, hSi.mono (by omega), fun at_ K1 a0 a1 hSK f1 => ?_⟩
        obtain ⟨j, rfl⟩ : ∃ j : Nat, at_ = (j : Int) := ⟨at_.toNat, by omega⟩
        have hj : j < ys.length := by omega
        have k1 := hSi.kt f1
        have hTi1 := hTi.mono k1
        have hRi1 := f1 _ _ nsR.symm hRi
        have hIi1 := f1 _ _ nsI.symm hIi
        obtain ⟨d, hd, hTd⟩ := hTi1.get (List.getElem?_eq_getElem hj)
        have sk5 := Same.fr1 ski f1 hst2
        obtain ⟨sts1, hsts1⟩ := hSK.lst
        refine ⟨_, rfl, _, rfl, _, rfl, _, rfl, R, ys, _, ys[j], rfl, rfl, SqL.of hRi1, atI_nat (List.getElem?_eq_getElem hj), st, tv, ys[j], pl, d, 998000 - 20 * i - 11, rfl, hT.kt_same sk5, g, hTd, hds _ (List.mem_of_getElem? hd), hSK.mono (by omega), fun u e K2 hTu hcan hSK2 f2 => ?_⟩
        have hI2' := f2 _ _ nsI.symm hIi1
        have sk6 := Same.fr1 sk5 f2 hst2
        have fI : Fr1 I K2 (upd K2 I (.lst (zs.set j u))) := (Fr1.refl I K2).at
        refine ⟨_, rfl, _, rfl, I, zs, _, j, rfl, rfl, hI2', Evl.ixN_nat (by omega), ?_⟩
        refine ⟨_, _, zs.set j u, es.set j e, rfl, upd_same, by rw [List.length_set]; exact hzl, ?_, fun x hx => ?_, ?_, ?_, ?_, Same.upd sk6 hI2⟩
        · have hz2 : ThAll (hide st I K2) zs es := (hTz.same (hide_fr f1)).same (hide_fr f2)
          have hu2 : Th (hide st I K2) u e := hTu.same (hide_nw hsts1 hIi1)
          exact (hz2.set j hu2).same hide_put
        · rcases set_mem hx with h | h
          · rw [h]; exact hcan
          · exact hce x h
        · rw [upd_ne nRI]
          exact f2 _ _ nsR.symm hRi1
        · exact (hTi1.mono (hSK.kt f2)).mono (fI.kt hI2')
        · exact (hSK2.fr fI nsI).mono (by omega)
      · rintro σ Hi ⟨o11, o15, zs, es, rfl, hIi, hzl, hTz, hce, hRi, hTi, hSi, ski⟩
        exact ⟨_, _, zs, es, rfl, hIi, hzl, hTz, hce, hRi, hTi, hSi.mono (by omega), ski⟩
    clear hI1 hR1 hTy1 hS1 hTh1 sk1
    rintro σ' G2 ⟨o11, o15, zs, es, rfl, hI2', hzl, hTz, hce, hR2, hTy2, hS2, sk2⟩
    have hzes : zs.length = es.length := hTz.length
    refine ⟨sizeL (by show 0 ≤ 100000; decide), fun u hu => ?_⟩
    have p1 := Same.upd (o := .tup []) (Same.refl G2) hu
    have hu1 : upd G2 u (.tup []) u = some (.tup []) := upd_same
    generalize upd G2 u (.tup []) = G3 at *
    refine ⟨sizeL (by show 8 ≤ 100000; decide), fun M hM => ?_⟩
    obtain ⟨fl, hfl⟩ : ∃ fl : List V, fl = [.str "out", .bl true, .bl false, .non, .int 1, .int 0, .str "True", .ref u] := ⟨_, rfl⟩
    rw [← hfl]
    have hS3' := hS2.same p1
    have nsM := hS3'.ne hM
    have p2 := Same.upd (o := .lst fl) (Same.refl G3) hM
    have hM1 : upd G3 M (.lst fl) M = some (.lst fl) := upd_same
    generalize upd G3 M (.lst fl) = G4 at *
    have hS4' := hS3'.same p2
    have p12 := p1.trans p2
    refine ⟨_, rfl, st, 8, 989000, rfl, by decide, by decide, hS4'.mono (by decide), fun z G5 z0 z1 hS5 f5 => ?_⟩
    obtain ⟨j, rfl⟩ : ∃ j : Nat, z = (j : Int) := ⟨z.toNat, by omega⟩
    have k5 := hS4'.kt f5
    have hu5 := k5 _ _ (p2 _ _ hu1)
    have hM5 := f5 _ _ nsM.symm hM1
    have hI5 := f5 _ _ nsI.symm (p12 _ _ hI2')
    have hR5 := f5 _ _ nsR.symm (p12 _ _ hR2)
    have hTy5 := (hTy2.mono (KT.of p12)).mono k5
    have hTz5 : ThAll (hide st I G5) zs es := (hTz.same (hide_fr (Fr1.of p12))).same (hide_fr f5)
    have sk5 := Same.fr1 (sk2.trans p12) f5 hst2
    obtain ⟨fv, fd, hfv, hF5, hff⟩ : ∃ v d, fl[j]? = some v ∧ Td G5 v d ∧ Fine 2 d := by
      have hj : j < 8 := by omega
      subst hfl
      match j, hj with
      | 0, _ => exact ⟨_, _, rfl, .str _, out_fine.up (by decide)⟩
      | 1, _ => exact ⟨_, _, rfl, .bl _, (Fine.bool _).up (by decide)⟩
      | 2, _ => exact ⟨_, _, rfl, .bl _, (Fine.bool _).up (by decide)⟩
      | 3, _ => exact ⟨_, _, rfl, .non, Fine.none.up (by decide)⟩
      | 4, _ => exact ⟨_, _, rfl, .int _, (Fine.int _).up (by decide)⟩
      | 5, _ => exact ⟨_, _, rfl, .int _, (Fine.int _).up (by decide)⟩
      | 6, _ => exact ⟨_, _, rfl, .str _, (can_str (As.can (As.lit (by decide +kernel)))).up (by decide)⟩
      | 7, _ => exact ⟨_, _, rfl, .tup hu5 .nil, Fine.tup (n := 1) (ds := []) (by simp)⟩
    refine ⟨M, _, _, fv, rfl, rfl, SqL.of hM5, atI_nat hfv, ?_⟩
    clear p1 p2 p12 hu1 hM1 hu5 hM5 hS4' hS3' hTz hTy2 hI2' hR2 k5
    refine ⟨_, rfl, I, _, rfl, .inl ⟨SqL.of hI5, fun pt hpt => ?_⟩⟩
    have r6 := Same.upd (o := .tup zs) (Same.refl G5) hpt
    have hp6 : upd G5 pt (.tup zs) pt = some (.tup zs) := upd_same
    generalize upd G5 pt (.tup zs) = G6 at *
    have hS6 := hS5.same r6
    refine ⟨_, rfl, st, 12, 988000, rfl, by decide, by decide, hS6.mono (by decide), fun way G7 w0 w1 hS7 f7 => ?_⟩
    have k7 := hS6.kt f7
    have hp7 := k7 _ _ hp6
    have hI7 := f7 _ _ nsI.symm (r6 _ _ hI5)
    have hR7 := f7 _ _ nsR.symm (r6 _ _ hR5)
    have hTy7 := (hTy5.mono (KT.of r6)).mono k7
    have hF7 := (hF5.kt_same r6).mono k7
    have sk7 := Same.fr1 (sk5.trans r6) f7 hst2
    have hTz7 : ThAll G7 zs es := ((hTz5.same (hide_fr (Fr1.of r6))).same (hide_fr f7)).same hide_same
    clear hTz5 hp6 hI5 hR5 hTy5 hF5 sk5 hS5 hS6 r6 k7
    refine ⟨fun σ' H' => ∃ (v : V) (d : PyData), σ' = [some (.ref a), some tv, some (.ref st), some (.ref le), some (.ref R), some (.ref I), some fv, some v, some (.int way), none, none, o11, none, o13, none, o15, none] ∧ Th H' v d ∧ d.canLay0 = true ∧ (∀ es, d = .tuple es → es.length ≤ 100) ∧ H' R = some (.lst ys) ∧ TdAll H' ys ds ∧ Td H' fv fd ∧ Same H2 H', ?_, ?_⟩
    · refine ⟨_, rfl, _, _, rfl, rfl, _, rfl, ite2 (fun c => ?_) (fun c => ?_)⟩
      · have w8 : 8 < way := of_decide_eq_true c
        obtain ⟨j, rfl⟩ : ∃ j : Nat, way = (j : Int) + 9 := ⟨(way - 9).toNat, by omega⟩
        refine ⟨_, rfl, I, zs, rfl, .inl (SqL.of hI7), fun l hl => ?_⟩
        have r8 := Same.upd (o := .lst zs) (Same.refl G7) hl
        have hl1 : upd G7 l (.lst zs) l = some (.lst zs) := upd_same
        generalize upd G7 l (.lst zs) = G8 at *
        refine ⟨sizeL (by show 3 ≤ 100000; decide), fun M2 hM2 => ?_⟩
        have r9 := Same.upd (o := .lst [.ref l, .non, .str "load"]) (Same.refl G8) hM2
        have hM21 : upd G8 M2 (.lst [.ref l, .non, .str "load"]) M2 = some (.lst [.ref l, .non, .str "load"]) := upd_same
        generalize upd G8 M2 (.lst [.ref l, .non, .str "load"]) = G9 at *
        have r89 := r8.trans r9
        obtain ⟨vv, d, hv, hT9, hcan, hno⟩ : ∃ v d, ([.ref l, .non, .str "load"] : List V)[j]? = some v ∧ Th G9 v d ∧ d.canLay0 = true ∧ ∀ es, d ≠ .tuple es := by
          have hj : j < 3 := by omega
          match j, hj with
          | 0, _ => exact ⟨_, .list es, rfl, .lst (r9 _ _ hl1) (hTz7.same r89), by simp only [PyData.canLay0]; exact canAll hce, fun _ e => by cases e⟩
          | 1, _ => exact ⟨_, _, rfl, .non, Fine.none.1, fun _ e => by cases e⟩
          | 2, _ => exact ⟨_, _, rfl, .str _, As.can (As.lit (by decide +kernel)), fun _ e => by cases e⟩
        refine ⟨_, rfl, _, _, rfl, rfl, M2, _, _, vv, rfl, rfl, SqL.of hM21, ?_, ?_⟩
        · rw [show (j : Int) + 9 - 9 = (j : Int) by omega]
          exact atI_nat hv
        · exact ⟨vv, d, rfl, hT9, hcan, fun es e => absurd e (hno es), r89 _ _ hR7, hTy7.mono (KT.of r89), hF7.kt_same r89, sk7.trans r89⟩
      · exact ⟨.ref pt, .tuple es, rfl, .tup hp7 hTz7, can_mk hce, fun es' e => by cases e; omega, hR7, hTy7, hF7, sk7⟩
    clear hI7 hR7 hTy7 hF7 sk7 hTz7 hp7
    rintro σ' G8 ⟨v, d, rfl, hTv, hcan, hlen, hR8, hTy8, hF8, sk8⟩
    have hT8 := hT.kt_same sk8
    refine ⟨_, rfl, fun x xdx nx ndx nex => ⟨x, xdx, tv, pl, rfl, hT8.mono (KT.upd ((KT.refl G8).upd ndx) nx), g, upd_same, fun H9 de9 S9 hde e9 => ⟨rfl, ?_⟩⟩⟩
    have t9 : Same G8 H9 := Same.made' nx ndx e9
    have S9 := S9.at
    have hT9 := hT8.kt_same t9
    have hTv9 := hTv.same t9
    have hF9 := hF8.kt_same t9
    have hR9 := t9 _ _ hR8
    have hTy9 := hTy8.mono (KT.of t9)
    clear hT8 hTv hF8 hR8 hTy8 nx ndx nex hde e9
    refine ⟨_, rfl, _, rfl, _, rfl, tv, v, fv, pl, d, fd, rfl, hT9, g, hTv9, hF9.th, hff, hlen, fun da H10 xs1 ds1 hda hT1 hdue e10 => ?_⟩
    obtain ⟨f1, d0, dr, rfl, hd0⟩ := dueD_shape hdue
    have S10 := S9.same e10
    have hT10 := hT9.kt_same e10
    have hTv10 := hTv9.same e10
    have hF10 := hF9.kt_same e10
    have hR10 := e10 _ _ hR9
    have hTy10 := hTy9.mono (KT.of e10)
    clear S9 hT9 hTv9 hF9 hR9 hTy9
    obtain ⟨sdx, sfv, sde, skvs, s1, _⟩ := S10.ex
    refine ⟨2, rfl, by decide, by decide, for_range (lo := 0) (n := 2) (fun k σ Hk => ∃ o11' o14 : Option V, σ = [some (.ref a), some tv, some (.ref st), some (.ref le), some (.ref R), some (.ref I), some fv, some v, some (.int way), some (.ref x), some (.ref da), o11', none, o13, o14, o15, none] ∧ Same H10 Hk) ?_ ?_ ?_⟩
    · exact ⟨_, _, rfl, Same.refl _⟩
    · rintro k σ Hk hk ⟨o11', o14, rfl, ek⟩
      refine ⟨_, rfl, _, rfl, _, rfl, x, v, fv, pl, d, fd, rfl, S10.same ek, hTv10.same ek, hcan, (hF10.kt_same ek).th, hff, fun ta H11 xs2 ds2 hta hT2 hdue2 e11 => ?_⟩
      obtain rfl : ds2 = d0 :: dr := by
        rw [hdue] at hdue2
        exact (PyData.list.inj hdue2).symm
      have e1 := ek.trans e11
      have hT1' : TdAll H11 xs1 (d0 :: dr) := hT1.mono (KT.of e1)
      refine ⟨_, rfl, _, rfl, _, _, Dp.lst (SqL.of hta) hT2.dp, Dp.lst (SqL.of (e1 _ _ hda)) hT1'.dp, f1.sh (by decide), f1.sh (by decide), false, by rw [f1.self]; rfl, iteF ?_⟩
      obtain ⟨x0, xr, rfl, hx0⟩ : ∃ x0 xr, xs2 = x0 :: xr ∧ Td H11 x0 d0 := by
        cases hT2 with
        | cons h r => exact ⟨_, _, rfl, h⟩
      obtain ⟨ty, hty, ko⟩ := hx0.th.askBool (K := K)
      have hnb : isBoolD d0 = false := by
        rcases hd0 with rfl | ⟨z, rfl⟩ <;> rfl
      rw [hnb] at ko
      refine ⟨_, rfl, ta, _, _, x0, rfl, rfl, SqL.of hta, atI_nat (j := 0) rfl, _, _, _, _, _, rfl, ClsV.ty "bool", hty, ko, _, rfl, iteF ?_⟩
      have S11 := S10.same e1
      refine ⟨_, rfl, x, sdx, _, rfl, e1 _ _ s1, sFlds_no _ _ (by decide +kernel) (by decide +kernel), x, pl, rfl, S11, fun v hv => ⟨_, rfl, _, _, hv.dp, (hT10.kt_same e1).dp, g.fine.sh (by decide), g.fine.sh (by decide), false, by rw [g.fine.self]; rfl, iteF ⟨_, _, rfl, e1⟩⟩⟩
    · rintro σ Hk ⟨o11', o14, rfl, ek⟩
      have hRk := ek _ _ hR10
      have hTyk := hTy10.mono (KT.of ek)
      refine ⟨_, rfl, _, rfl, R, _, rfl, SqL.of hRk, fun q2 hq2 => ?_⟩
      have r1 := Same.upd (o := .lst (cutV ys none (some 20))) (Same.refl Hk) hq2
      have hq21 : upd Hk q2 (.lst (cutV ys none (some 20))) q2 = some (.lst (cutV ys none (some 20))) := upd_same
      generalize upd Hk q2 (.lst (cutV ys none (some 20))) = K1 at *
      refine ⟨q2, _, rfl, .inl ⟨SqL.of hq21, fun rt hrt => ?_⟩⟩
      have r2 := Same.upd (o := .tup (cutV ys none (some 20))) (Same.refl K1) hrt
      have hTm : Td (upd K1 rt (.tup (cutV ys none (some 20)))) (.ref rt) (.tuple (cutL ds none (some 20))) := .tup upd_same (((hTyk.cut none (some 20)).mono (KT.of r1)).mono (KT.of r2))
      generalize upd K1 rt (.tup (cutV ys none (some 20))) = K2 at *
      have e2 := (ek.trans r1).trans r2
      have hgd : ∀ e ∈ cutL ds none (some 20), StepD pl e := fun e he => hds e (cutL_mem he)
      have hl20 : (cutL ds none (some 20)).length ≤ 20 := by
        rw [show cutL ds none (some 20) = ds.take 20 from cutL_to ds 20, List.length_take]
        omega
      refine ⟨_, rfl, _, rfl, x, .ref rt, .str "out", pl, _, .str "out", rfl, S10.same e2, hTm.th, can_mk fun e he => ((hgd e he).fine g).1, .str _, out_fine.up (by decide), fun ta H11 xs2 ds2 hta hT2 hdue2 e11 => ?_⟩
      rw [dueD_none (badAt_good hgd (by omega)), if_neg (by rw [out_self]; simp)] at hdue2
      obtain rfl := (PyData.list.inj hdue2).symm
      refine ⟨sizeL (by show 3 ≤ 100000; decide), fun L hL => ?_⟩
      have r3 := Same.upd (o := .lst [.non, .bl true, .bl true]) (Same.refl H11) hL
      have three : Fine 2 (.list [.none, .bool true, .bool true]) := Fine.lst (n := 1) fun d hd => by
        simp only [List.mem_cons, List.not_mem_nil, or_false] at hd
        rcases hd with rfl | rfl | rfl
        · exact Fine.none
        · exact Fine.bool _
        · exact Fine.bool _
      refine ⟨_, _, Dp.lst (SqL.of (r3 _ _ hta)) (hT2.mono (KT.of r3)).dp, Dp.lst (SqL.of upd_same) (TdAll.dp (.cons .non (.cons (.bl _) (.cons (.bl _) .nil)))), three.sh (by decide), three.sh (by decide), ?_⟩
      rw [three.self]
      exact q _
end My
namespace My
open PySem L2
theorem fin {l : PySem.W.OpenLaw} {w : World} {K : PySem.W.Frag} {mg : Str → Option Value} {fa : Addr} {CS CP XCarryError XNoStep XNoKept XNoStops XNotSame XNotSafe XNoFlag XNoStrokes XNothingBegun XNoSchema XNoTable XNoColumn XMissing XNoKey XNoRow XTaken XNotClosed XRefused XNoText XT_MISSING_WORDS XT_COLUMN_STEPS : Addr} (T : Txt K mg CS CP XCarryError XNoStep XNoKept XNoStops XNotSame XNotSafe XNoFlag XNoStrokes XNothingBegun XNoSchema XNoTable XNoColumn XMissing XNoKey XNoRow XTaken XNotClosed XRefused XNoText XT_MISSING_WORDS XT_COLUMN_STEPS) (hfa : mg "law" = some (.ref fa)) :
    ∃ fd : FuncData, (∀ (s : Shared) (v : Value), BindsTo s fd ⟨[v], []⟩ [("script", v)]) ∧ ∀ base : Heap, K.In base → base.Ns mainGlobals mg → FnOk l.prog w K mg base CX0 11 fa fd ["script"] (spLaw K) := by
  obtain ⟨f, fd, F, hm, hb⟩ := T.d_law.ex
  obtain rfl : fa = f := Value.ref.inj (Option.some.inj (hfa.symm.trans hm))
  refine ⟨fd, fun s v => ?_, fun base _ _ => F.ok sc_law len_law fun cdv A outer s H vs Q E hr h => body_law T fa cdv A outer s H vs Q E hr h⟩
  obtain ⟨oc, od, kV, doc, pm, an, cdv, ct, osl, rfl, _⟩ := F.ex
  exact .of_eq rfl
theorem walk {l : PySem.W.OpenLaw} {q : Program} {loose : List Str} {XP : (Str → Option Value) → Heap → Prop} {YP : World → Heap → Prop} {d : DefRec} {K : Params → PySem.W.Frag} (hn : l.most = some 63) (hdf : d.params.defaults = [])
    (hY : ∀ (w : World) (h : Heap), YP w h → (K w.params).In h)
    (F : ∀ (w : World) (mg : Str → Option Value) (fa : Addr) (h : Heap), (K w.params).In h → h.Ns mainGlobals mg → mg d.name = some (.ref fa) →
      ∃ fd : FuncData, (∀ (s : Shared) (u : Value), BindsTo s fd ⟨[u], []⟩ [("script", u)]) ∧ ∀ base : Heap, (K w.params).In base → base.Ns mainGlobals mg → FnOk l.prog w (K w.params) mg base CX0 11 fa fd ["script"] (spLaw (K w.params))) :
    PySem.W.WalkO q loose XP YP l.row.toRowW d [] (fun f vs => PySem.call f vs) :=
  L2.walk_of (n := 63) (k := 11) (x := "script") (CX := fun _ => CX0) (sp := fun w => spLaw (K w.params)) hn (by decide) hdf ⟨rfl, by decide, by decide⟩ hY F (fun _ _ a ns hl _ hS => ⟨a, ns, rfl, hS, hl, fun _ => rfl⟩) fun _ _ _ _ _ z => z
end My
open PySem PySem.W PyProof.Rows
set_option maxRecDepth 100000 in
set_option maxHeartbeats 0 in
theorem PySem.Challenge.cw_carrykeys_k13_steps_refused_holds : PySem.Challenge.rw_carrykeys_k13_steps_refused.Holds := by
  w_on; o_law; k_head; (case hw => w_witness2)
  k_fill
  refine My.walk (l := PySem.Challenge.rw_carrykeys_k13_steps_refused) rfl rfl (fun w h Y => PySem.W.kIn_of Y) ?F
  case F =>
    intro w mg fa h KX G hmg
    refine' My.fin (My.Txt.mk (My.classAt KX G ?h1 ?h2 ?h3 ?h4 ?h5 ?h6 ?h7)
      (My.noAttr ?h8)
      (My.noAttr ?h9)
      (My.classAt KX G ?h10 ?h11 ?h12 ?h13 ?h14 ?h15 ?h16)
      (My.noAttr ?h17)
      (My.noAttr ?h18)
      (My.noAttr ?h19)
      (My.baseAt KX G ?h20 ?h21 ?h22 ?h23 ?h24)
      (My.errAt KX G ?h25 ?h26 ?h27 ?h28 ?h29 ?h30 ?h31 ?h32 ?h33 ?h34 (My.noC ?h35 My.no0))
      (My.errAt KX G ?h36 ?h37 ?h38 ?h39 ?h40 ?h41 ?h42 ?h43 ?h44 ?h45 My.no0)
      ?h46
      (PySem.W.mg_of KX G ?h47)
      (PySem.W.mg_of KX G ?h48)
      (PySem.W.mg_of KX G ?h49)
      (PySem.W.mg_of KX G ?h50)
      (PySem.W.mg_of KX G ?h51)
      (PySem.W.mg_of KX G ?h52)
      (PySem.W.mg_of KX G ?h53)
      (PySem.W.mg_of KX G ?h54)
      (PySem.W.mg_of KX G ?h55)
      (PySem.W.mg_of KX G ?h56)
      (PySem.W.mg_of KX G ?h57)
      (PySem.W.mg_of KX G ?h58)
      (PySem.W.mg_of KX G ?h59)
      (PySem.W.mg_of KX G ?h60)
      (PySem.W.mg_of KX G ?h61)
      (PySem.W.mg_of KX G ?h62)
      ?h63
      ?h64
      ?h65
      ?h66
      ?h67
      ?h68
      ?h69
      ?h70
      ?h71
      ?h72
      ?h73
      ?h74
      ?h75
      ?h76
      ?h77
      ?h78
      ?h79
      ?h80
      ?h81
      ?h82
      ?h83
      ?h84
      ?h85
      ?h86
      ?h87
      ?h88
      ?h89
      ?h90
      ?h91
      ?h92
      ?h93
      ?h94
      ?h95
      ?h96
      ?h97
      ?h98
      ?h99
      ?h100
      (L2.ExcC.mk ?h101 ?h102 ?h103 ?h104 ?h105 ?h106 ?h107 ?h108)
      (L2.ExcC.mk ?h109 ?h110 ?h111 ?h112 ?h113 ?h114 ?h115 ?h116)
      ?h117
      ?h118
      ?h119
      ?h120
      (PySem.W.mg_of KX G ?h121)
      (My.tupAt ?h122 (by decide) ?h123)
      (PySem.W.mg_of KX G ?h124)
      (My.tupAt ?h125 (by decide) ?h126)
      (My.methAt (fun _ _ _ _ _ _ us hl => match us, hl with | [_, _], _ => rfl) ?h127 ?h128 ?h129 ?h130 ?h131)
      (My.methAt (fun _ _ _ _ _ _ us hl => match us, hl with | [_, _], _ => rfl) ?h132 ?h133 ?h134 ?h135 ?h136)
      (My.defAt KX G (fun _ _ _ _ _ _ us hl => match us, hl with | [_, _], _ => rfl) ?h137 ?h138 ?h139 ?h140)
      (My.defAt KX G (fun _ _ _ _ _ _ us hl => match us, hl with | [_], _ => rfl) ?h141 ?h142 ?h143 ?h144)
      (My.defAt KX G (fun _ _ _ _ _ _ us hl => match us, hl with | [_, _], _ => rfl) ?h145 ?h146 ?h147 ?h148)
      (My.defAt KX G (fun _ _ _ _ _ _ us hl => match us, hl with | [_, _], _ => rfl) ?h149 ?h150 ?h151 ?h152)
      (My.defAt KX G (fun _ _ _ _ _ _ us hl => match us, hl with | [_], _ => rfl) ?h153 ?h154 ?h155 ?h156)
      (My.defAt KX G (fun _ _ _ _ _ _ us hl => match us, hl with | [_, _], _ => rfl) ?h157 ?h158 ?h159 ?h160)
      (My.defAt KX G (fun _ _ _ _ _ _ us hl => match us, hl with | [_], _ => rfl) ?h161 ?h162 ?h163 ?h164)
      (My.defAt KX G (fun _ _ _ _ _ _ us hl => match us, hl with | [_, _], _ => rfl) ?h165 ?h166 ?h167 ?h168)
      (My.defAt KX G (fun _ _ _ _ _ _ us hl => match us, hl with | [_], _ => rfl) ?h169 ?h170 ?h171 ?h172)
      (My.defAt KX G (fun _ _ _ _ _ _ us hl => match us, hl with | [_], _ => rfl) ?h173 ?h174 ?h175 ?h176)
      (My.defAt KX G (fun _ _ _ _ _ _ us hl => match us, hl with | [_], _ => rfl) ?h177 ?h178 ?h179 ?h180)
      (My.defAt KX G (fun _ _ _ _ _ _ us hl => match us, hl with | [_], _ => rfl) ?h181 ?h182 ?h183 ?h184)
      (My.defAt KX G (fun _ _ _ _ _ _ us hl => match us, hl with | [_], _ => rfl) ?h185 ?h186 ?h187 ?h188)
      (My.defAt KX G (fun _ _ _ _ _ _ us hl => match us, hl with | [_], _ => rfl) ?h189 ?h190 ?h191 ?h192)
      (My.defAt KX G (fun _ _ _ _ _ _ us hl => match us, hl with | [_], _ => rfl) ?h193 ?h194 ?h195 ?h196)
      (My.methAt (fun _ _ _ _ _ _ us hl => match us, hl with | [_, _], _ => rfl) ?h197 ?h198 ?h199 ?h200 ?h201)
      (My.methAt (fun _ _ _ _ _ _ us hl => match us, hl with | [_], _ => rfl) ?h202 ?h203 ?h204 ?h205 ?h206)
      (My.methAt (fun _ _ _ _ _ _ us hl => match us, hl with | [_], _ => rfl) ?h207 ?h208 ?h209 ?h210 ?h211)
      (My.defAt KX G (fun _ _ _ _ _ _ us hl => match us, hl with | [_, _], _ => rfl) ?h212 ?h213 ?h214 ?h215)
      (My.defAt KX G (fun _ _ _ _ _ _ us hl => match us, hl with | [_, _], _ => rfl) ?h216 ?h217 ?h218 ?h219)
      (My.defAt KX G (fun _ _ _ _ _ _ us hl => match us, hl with | [_, _], _ => rfl) ?h220 ?h221 ?h222 ?h223)
      (My.methDAt (its := [.bool true]) (fun _ _ _ _ _ _ _ us its h1 h2 => match us, its, h1, h2 with | [_, _, _, _], [_], _, _ => ⟨_, rfl, rfl⟩) (fun _ _ _ _ _ _ _ us its h1 h2 => match us, its, h1, h2 with | [_, _, _], [_], _, _ => ⟨_, rfl, rfl⟩) (by simp) (by decide) ?h224 ?h225 ?h226 ?h227 ?h228 ?h229 ?h230 (.cons rfl .nil))
      (My.propAt (fun _ _ _ _ _ _ us hl => match us, hl with | [_], _ => rfl) ?h231 ?h232 ?h233 ?h234 ?h235 ?h236 ?h237)
      (My.methAt (fun _ _ _ _ _ _ us hl => match us, hl with | [_], _ => rfl) ?h238 ?h239 ?h240 ?h241 ?h242)
      (My.defAt KX G (fun _ _ _ _ _ _ us hl => match us, hl with | [_, _], _ => rfl) ?h243 ?h244 ?h245 ?h246)
      (My.defAt KX G (fun _ _ _ _ _ _ us hl => match us, hl with | [_, _], _ => rfl) ?h247 ?h248 ?h249 ?h250)
      (My.defAt KX G (fun _ _ _ _ _ _ us hl => match us, hl with | [_, _, _], _ => rfl) ?h251 ?h252 ?h253 ?h254)
      (My.defAt KX G (fun _ _ _ _ _ _ us hl => match us, hl with | [_], _ => rfl) ?h255 ?h256 ?h257 ?h258)
      (My.defAt KX G (fun _ _ _ _ _ _ us hl => match us, hl with | [_, _, _], _ => rfl) ?h259 ?h260 ?h261 ?h262)
      (My.defAt KX G (fun _ _ _ _ _ _ us hl => match us, hl with | [_, _, _], _ => rfl) ?h263 ?h264 ?h265 ?h266)
      (My.defAt KX G (fun _ _ _ _ _ _ us hl => match us, hl with | [_], _ => rfl) ?h267 ?h268 ?h269 ?h270)
      (My.constAt KX G ?h271 ?rLETTERS)
      (My.constAt KX G ?h272 ?rLONGEST_NAME)
      (My.constAt KX G ?h273 ?rMOST_TABLES)
      (My.constAt KX G ?h274 ?rMOST_REFERENCES)
      (My.constAt KX G ?h275 ?rMOST_STEPS)
      (PySem.W.mg_none_of KX G ?h276)
      (PySem.W.mg_none_of KX G ?h277)
      (PySem.W.mg_none_of KX G ?h278)
      (PySem.W.mg_none_of KX G ?h279)
      (PySem.W.mg_none_of KX G ?h280)
      (PySem.W.mg_none_of KX G ?h281)
      (PySem.W.mg_none_of KX G ?h282)
      (PySem.W.mg_none_of KX G ?h283)
      (PySem.W.mg_none_of KX G ?h284)
      (PySem.W.mg_none_of KX G ?h285)
      (PySem.W.mg_none_of KX G ?h286)
      (PySem.W.mg_none_of KX G ?h287)
      (PySem.W.mg_none_of KX G ?h288)) hmg
    (case h1 => k_is)
    (case h2 => k_is)
    (case h3 => k_is)
    (case h4 => k_is)
    (case h5 => k_is)
    (case h6 => k_is)
    (case h7 => k_is)
    (case h8 => k_is)
    (case h9 => k_is)
    (case h10 => k_is)
    (case h11 => k_is)
    (case h12 => k_is)
    (case h13 => k_is)
    (case h14 => k_is)
    (case h15 => k_is)
    (case h16 => k_is)
    (case h17 => k_is)
    (case h18 => k_is)
    (case h19 => k_is)
    (case h20 => k_is)
    (case h21 => k_is)
    (case h22 => k_is)
    (case h23 => k_is)
    (case h24 => k_is)
    (case h25 => k_is)
    (case h26 => k_is)
    (case h27 => decide +kernel)
    (case h28 => k_is)
    (case h29 => k_is)
    (case h30 => k_is)
    (case h31 => k_is)
    (case h32 => k_is)
    (case h33 => k_is)
    (case h34 => k_is)
    (case h35 => k_is)
    (case h36 => k_is)
    (case h37 => k_is)
    (case h38 => decide +kernel)
    (case h39 => k_is)
    (case h40 => k_is)
    (case h41 => k_is)
    (case h42 => k_is)
    (case h43 => k_is)
    (case h44 => k_is)
    (case h45 => k_is)
    (case h46 => first | rfl | decide +kernel | k_is)
    (case h47 => k_is)
    (case h48 => k_is)
    (case h49 => k_is)
    (case h50 => k_is)
    (case h51 => k_is)
    (case h52 => k_is)
    (case h53 => k_is)
    (case h54 => k_is)
    (case h55 => k_is)
    (case h56 => k_is)
    (case h57 => k_is)
    (case h58 => k_is)
    (case h59 => k_is)
    (case h60 => k_is)
    (case h61 => k_is)
    (case h62 => k_is)
    (case h63 => first | rfl | k_is | decide +kernel)
    (case h64 => first | rfl | k_is | decide +kernel)
    (case h65 => first | rfl | k_is | decide +kernel)
    (case h66 => first | rfl | k_is | decide +kernel)
    (case h67 => first | rfl | k_is | decide +kernel)
    (case h68 => first | rfl | k_is | decide +kernel)
    (case h69 => first | rfl | k_is | decide +kernel)
    (case h70 => first | rfl | k_is | decide +kernel)
    (case h71 => first | rfl | k_is | decide +kernel)
    (case h72 => first | rfl | k_is | decide +kernel)
    (case h73 => first | rfl | k_is | decide +kernel)
    (case h74 => first | rfl | k_is | decide +kernel)
    (case h75 => first | rfl | k_is | decide +kernel)
    (case h76 => first | rfl | k_is | decide +kernel)
    (case h77 => first | rfl | k_is | decide +kernel)
    (case h78 => first | rfl | k_is | decide +kernel)
    (case h79 => first | rfl | k_is | decide +kernel)
    (case h80 => first | rfl | k_is | decide +kernel)
    (case h81 => first | rfl | k_is | decide +kernel)
    (case h82 => first | rfl | k_is | decide +kernel)
    (case h83 => first | rfl | k_is | decide +kernel)
    (case h84 => first | rfl | k_is | decide +kernel)
    (case h85 => first | rfl | k_is | decide +kernel)
    (case h86 => first | rfl | k_is | decide +kernel)
    (case h87 => first | rfl | k_is | decide +kernel)
    (case h88 => first | rfl | k_is | decide +kernel)
    (case h89 => first | rfl | k_is | decide +kernel)
    (case h90 => first | rfl | k_is | decide +kernel)
    (case h91 => first | rfl | k_is | decide +kernel)
    (case h92 => first | rfl | k_is | decide +kernel)
    (case h93 => first | rfl | k_is | decide +kernel)
    (case h94 => first | rfl | k_is | decide +kernel)
    (case h95 => first | rfl | k_is | decide +kernel)
    (case h96 => first | rfl | k_is | decide +kernel)
    (case h97 => first | rfl | k_is | decide +kernel)
    (case h98 => first | rfl | k_is | decide +kernel)
    (case h99 => first | rfl | k_is | decide +kernel)
    (case h100 => first | rfl | k_is | decide +kernel)
    (case h101 => k_is)
    (case h102 => k_is)
    (case h103 => k_is)
    (case h104 => k_is)
    (case h105 => k_is)
    (case h106 => k_is)
    (case h107 => k_is)
    (case h108 => k_is)
    (case h109 => k_is)
    (case h110 => k_is)
    (case h111 => k_is)
    (case h112 => k_is)
    (case h113 => k_is)
    (case h114 => k_is)
    (case h115 => k_is)
    (case h116 => k_is)
    (case h117 => first | rfl | k_is)
    (case h118 => first | rfl | k_is)
    (case h119 => first | rfl | k_is)
    (case h120 => k_is)
    (case h121 => k_is)
    (case h122 => k_is)
    (case h123 => exact (.cons ⟨_, rfl⟩ (.cons ⟨_, rfl⟩ (.cons ⟨_, rfl⟩ .nil))))
    (case h124 => k_is)
    (case h125 => k_is)
    (case h126 => exact (.cons ⟨_, rfl⟩ (.cons ⟨_, rfl⟩ (.cons ⟨_, rfl⟩ .nil))))
    (case h127 => k_is)
    (case h128 => k_is)
    (case h129 => k_is)
    (case h130 => k_is)
    (case h131 => k_is)
    (case h132 => k_is)
    (case h133 => k_is)
    (case h134 => k_is)
    (case h135 => k_is)
    (case h136 => k_is)
    (case h137 => k_is)
    (case h138 => k_is)
    (case h139 => k_is)
    (case h140 => k_is)
    (case h141 => k_is)
    (case h142 => k_is)
    (case h143 => k_is)
    (case h144 => k_is)
    (case h145 => k_is)
    (case h146 => k_is)
    (case h147 => k_is)
    (case h148 => k_is)
    (case h149 => k_is)
    (case h150 => k_is)
    (case h151 => k_is)
    (case h152 => k_is)
    (case h153 => k_is)
    (case h154 => k_is)
    (case h155 => k_is)
    (case h156 => k_is)
    (case h157 => k_is)
    (case h158 => k_is)
    (case h159 => k_is)
    (case h160 => k_is)
    (case h161 => k_is)
    (case h162 => k_is)
    (case h163 => k_is)
    (case h164 => k_is)
    (case h165 => k_is)
    (case h166 => k_is)
    (case h167 => k_is)
    (case h168 => k_is)
    (case h169 => k_is)
    (case h170 => k_is)
    (case h171 => k_is)
    (case h172 => k_is)
    (case h173 => k_is)
    (case h174 => k_is)
    (case h175 => k_is)
    (case h176 => k_is)
    (case h177 => k_is)
    (case h178 => k_is)
    (case h179 => k_is)
    (case h180 => k_is)
    (case h181 => k_is)
    (case h182 => k_is)
    (case h183 => k_is)
    (case h184 => k_is)
    (case h185 => k_is)
    (case h186 => k_is)
    (case h187 => k_is)
    (case h188 => k_is)
    (case h189 => k_is)
    (case h190 => k_is)
    (case h191 => k_is)
    (case h192 => k_is)
    (case h193 => k_is)
    (case h194 => k_is)
    (case h195 => k_is)
    (case h196 => k_is)
    (case h197 => k_is)
    (case h198 => k_is)
    (case h199 => k_is)
    (case h200 => k_is)
    (case h201 => k_is)
    (case h202 => k_is)
    (case h203 => k_is)
    (case h204 => k_is)
    (case h205 => k_is)
    (case h206 => k_is)
    (case h207 => k_is)
    (case h208 => k_is)
    (case h209 => k_is)
    (case h210 => k_is)
    (case h211 => k_is)
    (case h212 => k_is)
    (case h213 => k_is)
    (case h214 => k_is)
    (case h215 => k_is)
    (case h216 => k_is)
    (case h217 => k_is)
    (case h218 => k_is)
    (case h219 => k_is)
    (case h220 => k_is)
    (case h221 => k_is)
    (case h222 => k_is)
    (case h223 => k_is)
    (case h224 => k_is)
    (case h225 => k_is)
    (case h226 => k_is)
    (case h227 => k_is)
    (case h228 => k_is)
    (case h229 => k_is)
    (case h230 => exact rfl)
    (case h231 => k_is)
    (case h232 => k_is)
    (case h233 => k_is)
    (case h234 => k_is)
    (case h235 => k_is)
    (case h236 => k_is)
    (case h237 => k_is)
    (case h238 => k_is)
    (case h239 => k_is)
    (case h240 => k_is)
    (case h241 => k_is)
    (case h242 => k_is)
    (case h243 => k_is)
    (case h244 => k_is)
    (case h245 => k_is)
    (case h246 => k_is)
    (case h247 => k_is)
    (case h248 => k_is)
    (case h249 => k_is)
    (case h250 => k_is)
    (case h251 => k_is)
    (case h252 => k_is)
    (case h253 => k_is)
    (case h254 => k_is)
    (case h255 => k_is)
    (case h256 => k_is)
    (case h257 => k_is)
    (case h258 => k_is)
    (case h259 => k_is)
    (case h260 => k_is)
    (case h261 => k_is)
    (case h262 => k_is)
    (case h263 => k_is)
    (case h264 => k_is)
    (case h265 => k_is)
    (case h266 => k_is)
    (case h267 => k_is)
    (case h268 => k_is)
    (case h269 => k_is)
    (case h270 => k_is)
    (case h271 => k_is)
    (case rLETTERS => exact ⟨_, rfl⟩)
    (case h272 => k_is)
    (case rLONGEST_NAME => exact ⟨_, rfl⟩)
    (case h273 => k_is)
    (case rMOST_TABLES => exact ⟨_, rfl⟩)
    (case h274 => k_is)
    (case rMOST_REFERENCES => exact ⟨_, rfl⟩)
    (case h275 => k_is)
    (case rMOST_STEPS => exact ⟨_, rfl⟩)
    (case h276 => k_is)
    (case h277 => k_is)
    (case h278 => k_is)
    (case h279 => k_is)
    (case h280 => k_is)
    (case h281 => k_is)
    (case h282 => k_is)
    (case h283 => k_is)
    (case h284 => k_is)
    (case h285 => k_is)
    (case h286 => k_is)
    (case h287 => k_is)
    (case h288 => k_is)
