import PyProof.Rows.All
import Wide.All
import OpenK.AllK
import Wide.FinOn
import HandS.ForMost
import HandS.Strs
import HandS.DictComp
import HandS.IsInst
import HandS.Style
import HandS.Wide
import HandS.MakeKw
import HandS.MakeKwOnly
import HandS.Evl
import KE.KOpsOwn
import HandS.More
import HandS.ExcInit
import HandS.ExcOwn
import HandS.ExcField
import HandS.ClsMeth
import HandS.TryMany
import HandS.WordsExc
import HandS.ExcIs
import KE.DataMinMax
import KE.KDictSum
import HandS.SortKw
import PyProof.EqKinds
import HandS.OwnEq
import KE.GoesMore
import HandS.Conv
import HandS.TupAny
import HandS.Iter
import HandS.Property
import HandS.Defaults
import PyProof.ListStr
import PyProof.EnumMake
import HandS.Deep
import HandS.HotCalls
import HandS.DeepEq
import HandS.TryOnly
import KE.DatumOrd
import HandS.Walk
import PyProof.StrOps2
import HandS.Text
import HandS.FStr
import KE.GoesEnumKw
import PySem.Challenge.RW_carrykeys_k53_script_texts_refused
set_option Elab.async false
set_option linter.all false
set_option maxRecDepth 100000
set_option maxHeartbeats 4000000

namespace My
open PySem PySem.Spec PyProof.Rows

def addOnce (l : List Str) (x : Str) : List Str := if l.any (· == x) then l else l ++ [x]
def onces (xs : List Str) : List Str := xs.foldl addOnce []
theorem onces_snoc (xs : List Str) (x : Str) : onces (xs ++ [x]) = addOnce (onces xs) x := by
  unfold onces
  rw [List.foldl_append]
  rfl
theorem addOnce_any (l : List Str) (x k : Str) : (addOnce l x).any (· == k) = (l.any (· == k) || decide (k = x)) := by
  unfold addOnce
  by_cases h : l.any (· == x) = true
  · rw [if_pos h]
    by_cases e : k = x
    · rw [e, h]; simp
    · simp [e]
  · rw [if_neg h, List.any_append]
    by_cases e : k = x
    · rw [e]; simp
    · have hb : (x == k) = false := by
        rw [beq_eq_false_iff_ne]
        exact fun q => e q.symm
      simp [hb, e]
theorem addOnce_len (l : List Str) (x : Str) : (addOnce l x).length = if l.any (· == x) then l.length else l.length + 1 := by
  unfold addOnce; split <;> simp
theorem onces_take (xs : List Str) (i : Nat) (h : i < xs.length) : onces (xs.take (i + 1)) = addOnce (onces (xs.take i)) xs[i] := by
  rw [List.take_succ_eq_append_getElem h, onces_snoc]
theorem onces_le (xs : List Str) : ∀ n, (onces (xs.take n)).length ≤ n
  | 0 => by simp [onces]
  | n + 1 => by
    by_cases h : n < xs.length
    · rw [onces_take xs n h, addOnce_len]
      have := onces_le xs n
      split <;> omega
    · rw [List.take_of_length_le (by omega)]
      have := onces_le xs n
      rw [List.take_of_length_le (by omega)] at this
      omega
theorem onces_nodup : ∀ (xs : List Str), xs.Nodup → onces xs = xs := by
  intro xs h
  have : ∀ n, n ≤ xs.length → onces (xs.take n) = xs.take n := by
    intro n
    induction n with
    | zero => intro _; simp [onces]
    | succ n ih =>
      intro hn
      have hlt : n < xs.length := by omega
      rw [onces_take xs n hlt, ih (by omega), List.take_succ_eq_append_getElem hlt]
      unfold addOnce
      rw [if_neg]
      intro q
      obtain ⟨y, hy, ey⟩ := List.any_eq_true.mp q
      have ey : y = xs[n] := beq_iff_eq.mp ey
      subst ey
      obtain ⟨j, hj, ej⟩ := List.getElem_of_mem hy
      rw [List.getElem_take] at ej
      have hjn : j < n := by
        rw [List.length_take] at hj; omega
      have := (List.getElem_inj h).mp ej
      omega
  have := this xs.length (Nat.le_refl _)
  rwa [List.take_length] at this
theorem onces_lt : ∀ (xs : List Str), ¬ xs.Nodup → (onces xs).length < xs.length := by
  intro xs
  have key : ∀ n, n ≤ xs.length → ((onces (xs.take n)).length = n → (xs.take n).Nodup ∧ onces (xs.take n) = xs.take n) := by
    intro n
    induction n with
    | zero => intro _ _; simp [onces]
    | succ n ih =>
      intro hn he
      have hlt : n < xs.length := by omega
      rw [onces_take xs n hlt, addOnce_len] at he
      have hle := onces_le xs n
      by_cases ha : (onces (xs.take n)).any (· == xs[n]) = true
      · rw [if_pos ha] at he; omega
      · rw [if_neg ha] at he
        obtain ⟨h1, h2⟩ := ih (by omega) (by omega)
        rw [onces_take xs n hlt, List.take_succ_eq_append_getElem hlt]
        unfold addOnce
        rw [if_neg ha, h2]
        refine ⟨L2.nd_snoc h1 fun m => ha ?_, rfl⟩
        rw [h2]
        exact List.any_eq_true.mpr ⟨_, m, beq_self_eq_true _⟩
  intro h
  have h1 := onces_le xs xs.length
  rw [List.take_length] at h1
  by_cases e : (onces xs).length = xs.length
  · have := (key xs.length (Nat.le_refl _) (by rw [List.take_length]; exact e)).1
    rw [List.take_length] at this
    exact absurd this h
  · omega

section
variable {prog : Program} {w : World} {A : Around} {R : Result → Shared → Prop} {It : Addr} {fp wr : List Addr} {G : Array GenState → Array GenState → Prop} {n : Nat} {Pv : Nat → Value → Prop} {Stn : Nat → Shared → Prop}
theorem fills (W : WalksS prog w A.in1 It fp wr G n Pv Stn) (D : Addr) (hD : D ∉ fp) (xs : List Str) (hl : xs.length = n) (hb : n + 1 < scanBound)
    (hv : ∀ i v, Pv i v → ∃ t, v = .str (xs.getD i Str.empty) t) :
    ∀ (k i : Nat) (s0 : Shared), n - i = k → i ≤ n → Stn i s0 →
      s0.heap.SetOf (PySem.strKind prog w) D (fun y => (onces (xs.take i)).any (· == y)) (onces (xs.take i)).length →
      (∀ s9, Moved (D :: wr) G s0 s9 → s9.heap.SetOf (PySem.strKind prog w) D (fun y => (onces xs).any (· == y)) (onces xs).length → R (.ok (.ret .none)) s9) →
      codeAny (model prog w) A (.builtin "set.update.loop" ⟨[.ref D, .ref It], []⟩) R s0 := by
  have hDw : D ∉ wr := fun q => hD (W.sub _ q)
  have hin : ∀ b ∈ wr, b ∈ D :: wr := fun b q => List.mem_cons_of_mem _ q
  intro k
  induction k with
  | zero =>
    intro i s0 hk hi hst hS hR
    obtain rfl : i = n := by omega
    refine codeAny_builtin (R := R) PyProof.Rows.F.entry_set_update_loop ?_
    rw [Around.under_plainId (PyProof.Rows.F.plain_set_update_loop) _]
    show wpAny _ A.in1 (pyNext (.ref It) >>= _) _ _ s0
    refine wpAny_bind (W.done s0 _ _ hst fun s9 hm => ?_)
    show wpAny _ A.in1 (ret Value.none) _ _ s9
    refine wpAny_pure (hR s9 (hm.mono hin) ?_)
    obtain ⟨o, es, ep, t, ho, more⟩ := hS
    rw [List.take_of_length_le (by omega)] at more
    exact ⟨o, es, ep, t, hm.heap D _ hDw ho, more⟩
  | succ k ih =>
    intro i s0 hk hi hst hS hR
    have hlt : i < n := by omega
    have hx : i < xs.length := by omega
    refine codeAny_builtin (R := R) PyProof.Rows.F.entry_set_update_loop ?_
    rw [Around.under_plainId (PyProof.Rows.F.plain_set_update_loop) _]
    show wpAny _ A.in1 (pyNext (.ref It) >>= _) _ _ s0
    refine wpAny_bind (W.item i s0 _ _ hlt hst fun v s9 hP hst9 hm => ?_)
    obtain ⟨t, rfl⟩ := hv i v hP
    have ex : xs.getD i Str.empty = xs[i] := by
      rw [List.getD_eq_getElem?_getD, List.getElem?_eq_getElem hx]
      rfl
    rw [ex]
    have hS9 : s9.heap.SetOf (PySem.strKind prog w) D (fun y => (onces (xs.take i)).any (· == y)) (onces (xs.take i)).length := by
      obtain ⟨o, es, ep, tb, ho, more⟩ := hS
      exact ⟨o, es, ep, tb, hm.heap D _ hDw ho, more⟩
    show wpAny _ A.in1 (holding [Value.str (xs[i]) t] (setAdd D (.str (xs[i]) t)) >>= _) _ _ s9
    refine wpAny_bind (wpAny_holding ?_)
    unfold setAdd
    refine wpAny_holding ?_
    refine wpAny_bind ((PySem.strKind prog w).pyHash (k := xs[i]) (strKind_is _ _ _ _) ?_)
    have room : (onces (xs.take i)).length + 1 < scanBound := by
      have := onces_le xs i
      omega
    refine wpAny_setAddHashed_of (knd := PySem.strKind prog w) (s := { s9 with toks := s9.toks + 1 }) (strKind_is _ _ _ _) rfl hS9 room fun h9 sb hS2 => ?_
    have hSn : h9.SetOf (PySem.strKind prog w) D (fun y => (onces (xs.take (i + 1))).any (· == y)) (onces (xs.take (i + 1))).length :=
      SetOf_congr hS2 (fun y => by rw [onces_take xs i hx, addOnce_any]) (by rw [onces_take xs i hx, addOnce_len])
    refine wpAny_pure ⟨plainId_quiet (PyProof.Rows.F.plain_set_update_loop) _, ih (i + 1) _ (by omega) hlt (W.frame _ s9 _ _ hst9 (Nat.le_succ _) fun b q o e => ?_) hSn fun z hmz hSz => ?_⟩
    · rw [sb.2 b (fun r : b = D => hD (by rw [← r]; exact q))]
      exact e
    · refine hR z (Moved.trans W.gtrans ((hm.mono hin).then_heap (Nat.le_succ _) fun b o q e => ?_) hmz) hSz
      rw [sb.2 b (fun r : b = D => q (by rw [r]; exact List.mem_cons_self))]
      exact e
end
section
variable {prog : Program} {w : World} {A : Around} {E : Value → Shared → Prop} {s : Shared}
abbrev emptySet (led : Bool) : Obj := { cls := .type "set", dict := none, data := .set #[] 0 (.fresh 0 0 led) }
theorem made_set {l : Addr} {its : Array Value} {xs : List Str} {Q : Value → Shared → Prop}
    (calm : A.handled = none) (hl : s.heap.IsList l its) (hi : StrsAre its.toList xs) (hb : its.size + 1 < scanBound) (hn : xs.length = its.size)
    (h : ∀ (h9 : Heap) (tk : Nat), h9.SetOf (PySem.strKind prog w) s.heap.objs.size (fun y => (onces xs).any (· == y)) (onces xs).length →
      (∀ b o, b < s.heap.objs.size → s.heap.get? b = some o → h9.get? b = some o) → Q (.ref s.heap.objs.size) { s with heap := h9, toks := tk }) :
    wpAny (model prog w) A (call (.type "set") [.ref l]) Q E s := by
  obtain ⟨c, tl, hmro⟩ := (PySem.F.called_set).mro
  have made := (PySem.F.called_set).made
  have sub := (PySem.F.called_set).sub
  refine wpAny_call (codeAny_of_tree ?_)
  show wpAny _ _ (callAny (.type "set") _) _ _ _
  refine wpAny_pure ⟨Code.quiet_builtin _ (by decide +kernel), (codeAny_builtin PySem.F.entry_type_call ?_)⟩
  rw [Around.under_plain (weight_type_call_type "set" [.ref l] []) (by rfl)]
  have n1 := (PySem.F.called_set).notType
  have n2 := (PySem.F.called_set).canCreate
  have n3 := PySem.F.typeCall_set_1 (.ref l)
  repeat (any_goals (first | assumption | wp_step))
  refine codeAny_mono (code_set_new_1 (.ref l) (E := E) (Q₁ := fun ob s1 => ∃ led : Bool, ob = .ref s.heap.objs.size ∧ s1 = { s with heap := s.heap.push (emptySet led) }) fun led => ⟨led, rfl, rfl⟩) fun r s1 hr => ?_
  cases r with
  | error e => exact hr
  | ok fl =>
    cases fl with
    | ret ob =>
      obtain ⟨led, rfl, rfl⟩ := hr
      have hS : (s.heap.push (emptySet led)).get? s.heap.objs.size = some (emptySet led) := Heap.get?_push_size _ rfl
      have hT : Shared.TypeIs { s with heap := s.heap.push (emptySet led) } (.ref s.heap.objs.size) "set" := ⟨_, hS, rfl⟩
      have q1 := (PySem.F.called_set).init.lookup
      have q2 := (PySem.F.called_set).init.bind (.ref s.heap.objs.size)
      repeat (any_goals (first | assumption | wp_step))
      refine codeAny_mono (codeAny_call_builtin (R := wants (fun r s2 => r = .none ∧ ∃ h9 tk, s2 = { s with heap := h9, toks := tk } ∧
          h9.SetOf (PySem.strKind prog w) s.heap.objs.size (fun y => (onces xs).any (· == y)) (onces xs).length ∧
          (∀ b o, b < s.heap.objs.size → s.heap.get? b = some o → h9.get? b = some o)) E) (PySem.F.called_set).init.plain (PySem.F.entry_set_init) (check_set_init_1 hT ?_)) fun r2 s2 hr2 => ?_
      · obtain ⟨ol, hol, hcl, nl, hdl⟩ := hl
        obtain ⟨ocls, odict, odata, oslots⟩ := ol
        simp only at hcl hdl
        subst hcl
        subst hdl
        have hol2 : (s.heap.push (emptySet led)).get? l = some { cls := .type "list", dict := odict, data := .seq its nl, slots := oslots } := Heap.get?_push_of_some _ hol
        have u1 := PySem.F.sub_list_set
        have u2 := PySem.F.sub_list_frozenset
        have u3 : (Value.type "list" == Value.type "dict") = false := by decide
        have hl1 : (s.heap.push (emptySet led)).IsList l its := ⟨_, hol2, rfl, nl, rfl⟩
        unfold Builtin.«set.__init__» noKeywords Builtin.Frozenset.updateFrom
        generalize hPI : pyIter = PI
        wp_walk
        subst hPI
        refine wpAny_pyIter_list hl1 ?_
        refine wpAny_bind (wpAny_runValue ?_)
        have hlt : l < s.heap.objs.size := Heap.lt_size hol
        have calm3 : A.in1.in1.in1.handled = none := by simp [calm]
        have ne1 : l ≠ (s.heap.push (emptySet led)).objs.size := by
          rw [Heap.size_push]
          exact Nat.ne_of_lt (Nat.lt_succ_of_lt hlt)
        have ne2 : s.heap.objs.size ∉ [(s.heap.push (emptySet led)).objs.size, l] := by
          rw [Heap.size_push]
          simp only [List.mem_cons, List.mem_singleton, List.not_mem_nil, or_false, not_or]
          exact ⟨Nat.ne_of_lt (Nat.lt_succ_self _), Nat.ne_of_gt hlt⟩
        have hv : ∀ (i : Nat) (v : Value), its[i]? = some v → ∃ t, v = .str (xs.getD i Str.empty) t := fun i v e => SS.strs_at hi i v (by rw [Array.getElem?_toList]; exact e)
        refine fills ((Walks.list calm3 _ l ne1 its).toS) s.heap.objs.size ne2 xs hn hb hv (its.size - 0) 0 _ (by omega) (Nat.zero_le _)
          ⟨⟨_, Heap.get?_push_size _ rfl, rfl, rfl⟩, (hl1.push _)⟩ ?h0 ?h1
        case h0 =>
          have hg : ((s.heap.push (emptySet led)).push { cls := .type "list_iterator", data := .fields #[.ref l, .int 0 0] }).get? s.heap.objs.size = some (emptySet led) := Heap.get?_push_of_some _ hS
          exact SetOf_congr ((setObjOf_fresh (knd := PySem.strKind prog w) led).setOf hg (by unfold scanBound; omega)) (fun _ => rfl) rfl
        case h1 =>
          intro z hm hSz
          obtain ⟨h9, g9, d9, tk9, os9⟩ := z
          obtain rfl : g9 = s.gens := hm.gens
          obtain rfl : d9 = s.drawn := hm.drawn
          obtain rfl : os9 = s.os := hm.os
          show wpAny _ _ _ _ _ _
          refine wpAny_pure ?_
          show wpAny _ _ (ret Value.none) _ _ _
          refine wpAny_pure ⟨rfl, h9, tk9, rfl, hSz, fun b o hb e => ?_⟩
          have m1 : b ≠ s.heap.objs.size := Nat.ne_of_lt hb
          have m2 : b ≠ (s.heap.push (emptySet led)).objs.size := by
            rw [Heap.size_push]
            exact Nat.ne_of_lt (Nat.lt_succ_of_lt hb)
          exact hm.heap b o (by simp only [List.mem_cons, List.mem_singleton, List.not_mem_nil, or_false, not_or]; exact ⟨m1, m2⟩) (Heap.get?_push_of_some _ (Heap.get?_push_of_some _ e))
      · cases r2 with
        | error e => exact hr2
        | ok fl2 =>
          cases fl2 with
          | ret r =>
            obtain ⟨rfl, h9, tk, rfl, hSz, hkz⟩ := hr2
            repeat (any_goals (first | assumption | wp_step))
            exact h _ _ hSz hkz
          | _ => exact hr2.elim
    | _ => exact hr.elim
end
section
open L2
def tLenSetS (K : PySem.W.Frag) (ta : TE) : TE := fun σ H Q => ta σ H fun x H1 => ∃ (l : Addr) (xs : List Str), x = .ref l ∧ SqL K H1 l (xs.map V.str) ∧ xs.length ≤ 1000 ∧ Q (.int ((onces xs).length : Nat)) H1
theorem pe_lenSetS {X : Cx} {a : Expr} {ta : TE} {p p2 q pos : Pos} (hm : X.mg "len" = none) (hm2 : X.mg "set" = none) (ha : PE X a ta) (hg : Gl X "len" := by rfl) (hg2 : Gl X "set" := by rfl) (hc : X.calm = true := by rfl)
    (na : starEach [a] X.env = (false, eval a X.env) :: starEach [] X.env := by rfl) : PE X (.Call (.Name "len" p) [.Call (.Name "set" p2) [a] [] q] [] pos) (tLenSetS X.K ta) := by
  refine ⟨fun pins s σ H Q I h => Call_ (ld_blt I hg hm boot_len ?_)⟩
  refine callWith_builtin1 (args_cons (Call_ (ld_blt I hg2 hm2 boot_set ?_)) rfl) rfl rfl
  refine callWith_type1 (args_cons (thn (ha.run pins s σ H _ I h) fun v s1 ⟨x, H1, I1, r1, q1⟩ => args_nil ?_) na) na rfl
  obtain ⟨l, xs, rfl, hq, hz, q1⟩ := q1
  cases r1
  obtain ⟨its, r, pl, _⟩ := I1.list hq
  have hlen : its.toArray.size = xs.length := by rw [List.size_toArray, ← r.length, List.length_map]
  refine made_set (I1.ok.hd hc) pl.isList (by simpa using strsAre_of r) (by rw [hlen]; unfold scanBound; omega) hlen.symm fun h9 tk hS hk => args_nil ?_
  obtain ⟨o, es, ep, t, ho, hex, hd, _, _, _, hf, hn⟩ := hS
  have I2 : Inv X pins σ H1 { s1 with heap := h9, toks := tk } := I1.kept fun b o e => hk b o (Heap.lt_size e) e
  have hle := onces_le xs xs.length
  rw [List.take_length] at hle
  exact call_len_set ho hex hd hf (by rw [hn]; omega) ⟨.int ((onces xs).length : Nat), H1, I2.tok _, ⟨_, by rw [hn]⟩, q1⟩
end
end My
namespace My
open PySem PySem.Spec PyProof.Rows L2

structure DefAt (K : PySem.W.Frag) (mg : Str → Option Value) (x : Str) (st : Stmt) (ps : List Str) : Prop where
  ex : ∃ f fd, Fun K x x st f fd ∧ mg x = some (.ref f) ∧ Binds K fd ps []
structure MethAt (K : PySem.W.Frag) (C : Addr) (m q : Str) (st : Stmt) (ps : List Str) : Prop where
  ex : ∃ f fd, Fun K m q st f fd ∧ Meth K C m f ∧ Binds K fd ps []
structure ClassAt (K : PySem.W.Frag) (mg : Str → Option Value) (C : Addr) (x : Str) : Prop where
  mg : mg x = some (.ref C)
  cl : Cls K C
  makes : PySem.W.makesIn K C = true
  kp : PySem.W.keepIn K (.ref C) = true
structure CallOk (P : Program) (w : World) (K : PySem.W.Frag) (mg : Str → Option Value) (base : Heap) (k : Nat) (x : Str) (sp : Sp) : Prop where
  ex : ∃ f fd ps, FnOk P w K mg base CX0 k f fd ps sp ∧ mg x = some (.ref f) ∧ PySem.W.keepIn K (.ref f) = true ∧ Binds K fd ps []
structure MethOk (P : Program) (w : World) (K : PySem.W.Frag) (mg : Str → Option Value) (base : Heap) (k : Nat) (C : Addr) (m : Str) (sp : Sp) : Prop where
  ex : ∃ f fd ps, FnOk P w K mg base CX0 k f fd ps sp ∧ Meth K C m f ∧ Binds K fd ps [] ∧ Cls K C
structure MakeOk (P : Program) (w : World) (K : PySem.W.Frag) (mg : Str → Option Value) (base : Heap) (k : Nat) (C : Addr) (x : Str) (sp : Sp) : Prop where
  ex : ∃ f fd ps, FnOk P w K mg base CX0 k f fd ps sp ∧ Mk K C f ∧ Binds K fd ps [] ∧ mg x = some (.ref C)
section
variable {P : Program} {w : World} {K : PySem.W.Frag} {mg : Str → Option Value} {base : Heap} {k : Nat} {x m q : Str} {C : Addr} {sp : Sp} {N ps : List Str} {st : Stmt}
def BodyOk (P : Program) (w : World) (K : PySem.W.Frag) (mg : Str → Option Value) (base : Heap) (k : Nat) (N : List Str) (q : Str) (st : Stmt) (sp : Sp) : Prop :=
  ∀ (f : Addr) (cdv : Value) (A : Around) (outer : List Env) (s : Shared) (H : Hp) (vs : List V) (Q : VK) (E : XK), Room k (A.deeper (envOfC q (defScope st) s.heap.objs.size f cdv)) → sp vs H Q E →
    ∃ t, PSs (cxOf CX0 P w K mg base N q (defScope st) f cdv A outer s H E).nox (defBody st) t ∧ t { nx := fun _ H' => Q .non H', rt := Q } (start N vs) H
theorem DefAt.ok (D : DefAt K mg x st ps) (S : FnScope N ps (defScope st)) (len : ∀ vs H Q E, sp vs H Q E → vs.length = ps.length) (b : BodyOk P w K mg base k N x st sp) : CallOk P w K mg base (k + 1) x sp := by
  obtain ⟨f, fd, F, hm, hb⟩ := D.ex
  exact ⟨f, fd, ps, F.ok S len (fun cdv A outer s H vs Q E hr h => b f cdv A outer s H vs Q E hr h), hm, F.kp, hb⟩
theorem MethAt.ok (D : MethAt K C m q st ps) (c : Cls K C) (S : FnScope N ps (defScope st)) (len : ∀ vs H Q E, sp vs H Q E → vs.length = ps.length) (b : BodyOk P w K mg base k N q st sp) : MethOk P w K mg base (k + 1) C m sp := by
  obtain ⟨f, fd, F, hm, hb⟩ := D.ex
  exact ⟨f, fd, ps, F.ok S len (fun cdv A outer s H vs Q E hr h => b f cdv A outer s H vs Q E hr h), hm, hb, c⟩
theorem MethAt.make (D : MethAt K C "__init__" q st ps) (c : ClassAt K mg C x) (S : FnScope N ps (defScope st)) (len : ∀ vs H Q E, sp vs H Q E → vs.length = ps.length) (b : BodyOk P w K mg base k N q st sp) : MakeOk P w K mg base (k + 1) C x sp := by
  obtain ⟨f, fd, F, hm, hb⟩ := D.ex
  exact ⟨f, fd, ps, F.ok S len (fun cdv A outer s H vs Q E hr h => b f cdv A outer s H vs Q E hr h), ⟨c.makes, hm.at_, hm.fn, c.kp⟩, hb, c.mg⟩
end
structure MakeKOk (P : Program) (w : World) (K : PySem.W.Frag) (mg : Str → Option Value) (base : Heap) (k : Nat) (C : Addr) (x : Str) (n : Nat) (ks : List Str) (gV : List V → List V → List V) (sp : Sp) : Prop where
  ex : ∃ f fd ps g, FnOk P w K mg base CX0 k f fd ps sp ∧ Mk K C f ∧ KBn K fd ps (n + 1) ks g gV ∧ mg x = some (.ref C)
section
variable {P : Program} {w : World} {K : PySem.W.Frag} {mg : Str → Option Value} {base : Heap} {k n : Nat} {x m q : Str} {C : Addr} {sp : Sp} {N ps ks : List Str} {st : Stmt}
theorem MethAt.makeK (D : MethAt K C "__init__" q st ps) (c : ClassAt K mg C x) (S : FnScope N ps (defScope st)) (len : ∀ vs H Q E, sp vs H Q E → vs.length = ps.length) (b : BodyOk P w K mg base k N q st sp)
    (g : {α : Type} → List α → List α → List α) (hrel : ∀ {vs zs : List V} {us ws : List Value}, Vals vs us → Vals zs ws → Vals (g vs zs) (g us ws))
    (h : ∀ (kV doc pm : Value) (an : Option Addr) (cdv ct : Value) (us ws : List Value), us.length = n + 1 → ws.length = ks.length → bindArgs (PySem.W.fnOf "__init__" q (defArgs st) (defBody st) (defScope st) .none kV doc pm an cdv ct) ⟨us, ks.zip ws⟩ = pure (ps.zip (g us ws))) :
    MakeKOk P w K mg base (k + 1) C x n ks (fun vs zs => g vs zs) sp := by
  obtain ⟨f, fd, F, hm, hb⟩ := D.ex
  refine ⟨f, fd, ps, fun us ws => g us ws, F.ok S len (fun cdv A outer s H vs Q E hr h => b f cdv A outer s H vs Q E hr h), ⟨c.makes, hm.at_, hm.fn, c.kp⟩, ?_, c.mg⟩
  obtain ⟨oc, od, kV, doc, pm, an, cdv, ct, osl, rfl, lk, hcd⟩ := F.ex
  exact ⟨fun s us ws _ l1 l2 => .of_eq (h kV doc pm an cdv ct us ws l1 l2), fun r1 r2 => hrel r1 r2⟩
end
section
variable {X : Cx} {k : Nat} {x m : Str} {C : Addr} {sp : Sp} {p pos apos : Pos} {e o : Expr} {es : List Expr} {t tk : TA} {ta : TE} {kws : List Keyword} {ks : List Str} {gV : List V → List V → List V}
theorem pe_makeKC (G : MakeKOk X.prog X.w X.K X.mg X.base k C x 0 ks gV sp) (hr : Room (k + 1) X.A) (hkw : PK X kws tk) (hg : Gl X x := by rfl)
    (hall : (backToKw pos (keywordEach kws X.env)).all (·.1.isSome) = true := by rfl) (hks : (backToKw pos (keywordEach kws X.env)).filterMap (·.1) = ks := by rfl) (hdb : (x == ("__debug__" : Str)) = false := by decide)
    (hpl : ((backTo pos (starEach [] X.env)).any (·.1) || (backToKw pos (keywordEach kws X.env)).any (·.1.isNone)) = false := by rfl) : PE X (.Call (.Name x p) [] kws pos) (tMakeK C 0 ks.length sp gV E0 tNil tk) := by
  obtain ⟨f, fd, ps, g, F, hM, hb, hm⟩ := G.ex
  exact pe_makeK0 hM F hr hg hm hb pass0 hkw hall hks hdb hpl
theorem pe_callC (G : CallOk X.prog X.w X.K X.mg X.base k x sp) (hr : Room k X.A) (ha : PA X (e :: es) t) (hg : Gl X x := by rfl) (hdb : (x == ("__debug__" : Str)) = false := by decide)
    (he : starEach (e :: es) X.env = (false, eval e X.env) :: starEach es X.env := by rfl) (hpl : (backTo pos (starEach es X.env)).any (·.1) = false := by rfl) : PE X (.Call (.Name x p) (e :: es) [] pos) (tCall sp [] E0 t) := by
  obtain ⟨f, fd, ps, F, hm, hk, hb⟩ := G.ex
  exact pe_call F hr hg hm hk hb .nil pass0 ha hdb he hpl
theorem pe_makeC (G : MakeOk X.prog X.w X.K X.mg X.base k C x sp) (hr : Room (k + 1) X.A) (ha : PA X (e :: es) t) (hg : Gl X x := by rfl) (hdb : (x == ("__debug__" : Str)) = false := by decide)
    (he : starEach (e :: es) X.env = (false, eval e X.env) :: starEach es X.env := by rfl) (hpl : (backTo pos (starEach es X.env)).any (·.1) = false := by rfl) : PE X (.Call (.Name x p) (e :: es) [] pos) (tMake C sp [] E0 t) := by
  obtain ⟨f, fd, ps, F, hM, hb, hm⟩ := G.ex
  exact pe_make hM F hr hg hm hb .nil pass0 ha hdb he hpl
theorem pe_methC {pl : Sem Bool} (he : PE X o ta) (G : MethOk X.prog X.w X.K X.mg X.base k C m sp) (hr : Room k X.A) (ha : PA X (e :: es) t)
    (hst : starEach (e :: es) X.env = (false, eval e X.env) :: starEach es X.env := by rfl) (hpl : (backTo pos (starEach es X.env)).any (·.1) = false := by rfl)
    (ht : eval (.Call (.Attribute o m apos) (e :: es) [] pos) X.env = (do
      let ov ← eval o X.env
      standAt apos.atName
      let (f, first) ← holding [ov] (getMethod ov m pl)
      callWith pos f first (backTo pos (starEach (e :: es) X.env)) (backToKw pos (keywordEach [] X.env))) := by rfl) :
    PE X (.Call (.Attribute o m apos) (e :: es) [] pos) (tMeth C m sp [] E0 ta t) := by
  obtain ⟨f, fd, ps, F, hm, hb, c⟩ := G.ex
  exact pe_meth he c hm F hr hb .nil pass0 ha hst hpl ht
theorem pe_methC0 {pl : Sem Bool} (he : PE X o ta) (G : MethOk X.prog X.w X.K X.mg X.base k C m sp) (hr : Room k X.A)
    (ht : eval (.Call (.Attribute o m apos) [] [] pos) X.env = (do
      let ov ← eval o X.env
      standAt apos.atName
      let (f, first) ← holding [ov] (getMethod ov m pl)
      callWith pos f first (backTo pos (starEach [] X.env)) (backToKw pos (keywordEach [] X.env))) := by rfl) :
    PE X (.Call (.Attribute o m apos) [] [] pos) (tMeth C m sp [] E0 ta tNil) := by
  obtain ⟨f, fd, ps, F, hm, hb, c⟩ := G.ex
  exact pe_meth0 he c hm F hr hb .nil pass0 ht
theorem pe_globV {v : V} (h : ∃ u, X.mg x = some u ∧ RelV v u) (hg : Gl X x := by rfl) (hd : (x == ("__debug__" : Str)) = false := by decide) : PE X (.Name x pos) (tC v) := by
  obtain ⟨u, hm, r⟩ := h
  exact pe_glob hg hm r hd
end

section
variable {K : PySem.W.Frag} {h : Heap} {mg : Str → Option Value} {C f : Addr} {x m q : Str} {st : Stmt} {ps : List Str} {oc : Value} {od an : Option Addr} {osl : Array (Option Value)} {kV doc pm cdv ct : Value}
theorem defAt (X : K.In h) (G : h.Ns mainGlobals mg) (b : ∀ (kV doc pm : Value) (an : Option Addr) (cdv ct : Value) (us : List Value), us.length = ps.length → bindArgs (PySem.W.fnOf x x (defArgs st) (defBody st) (defScope st) .none kV doc pm an cdv ct) ⟨us, []⟩ = pure (ps.zip us))
    (a : PySem.W.nsIn K mainGlobals x = some (some (.ref f))) (l : K.lookup f = some ⟨oc, od, .func (PySem.W.fnOf x x (defArgs st) (defBody st) (defScope st) .none kV doc pm an cdv ct), osl⟩)
    (c : PySem.W.codeIn K cdv x = true) (k : PySem.W.keepIn K (.ref f) = true) : DefAt K mg x st ps :=
  ⟨f, _, fun_mk (st := st) l c k, PySem.W.mg_of X G a, (fun_mk (st := st) l c k).binds b⟩
theorem methAt (b : ∀ (kV doc pm : Value) (an : Option Addr) (cdv ct : Value) (us : List Value), us.length = ps.length → bindArgs (PySem.W.fnOf m q (defArgs st) (defBody st) (defScope st) .none kV doc pm an cdv ct) ⟨us, []⟩ = pure (ps.zip us))
    (a : PySem.W.findIn K (.ref C) m = some (some (.ref f))) (i : PySem.W.isFn K (.ref f) = true) (l : K.lookup f = some ⟨oc, od, .func (PySem.W.fnOf m q (defArgs st) (defBody st) (defScope st) .none kV doc pm an cdv ct), osl⟩)
    (c : PySem.W.codeIn K cdv q = true) (k : PySem.W.keepIn K (.ref f) = true) : MethAt K C m q st ps :=
  ⟨f, _, fun_mk (st := st) l c k, ⟨a, i, k⟩, (fun_mk (st := st) l c k).binds b⟩
theorem classAt (X : K.In h) (G : h.Ns mainGlobals mg) (a : PySem.W.nsIn K mainGlobals x = some (some (.ref C))) (pg : PySem.W.plainGet K C Str.empty = true) (hd : PySem.W.hasDictIn K C = true) (po : PySem.W.plainOver K C = true)
    (sa : PySem.W.findIn K (.ref C) "__setattr__" = some (some (.builtin "object.__setattr__"))) (mk : PySem.W.makesIn K C = true) (kc : PySem.W.keepIn K (.ref C) = true) : ClassAt K mg C x :=
  ⟨PySem.W.mg_of X G a, ⟨pg, hd, po, sa⟩, mk, kc⟩
theorem noAttr (a : PySem.W.findIn K (.ref C) x = some none) : NoAttr K C x := a
theorem constAt (X : K.In h) (G : h.Ns mainGlobals mg) {v : V} {u : Value} (a : PySem.W.nsIn K mainGlobals x = some (some u)) (r : RelV v u) : ∃ u, mg x = some u ∧ RelV v u := ⟨u, PySem.W.mg_of X G a, r⟩
end
section
variable {X : Cx} {K : PySem.W.Frag}
def rTupOf (K : PySem.W.Frag) : List V → Hp → VK → Prop := fun xs H Q => ∃ p ys, xs = [.ref p] ∧ ((SqL K H p ys ∧ ∀ l, H l = none → Q (.ref l) (upd H l (.tup ys))) ∨ (SqT K H p ys ∧ Q (.ref p) H))
def rListOf (K : PySem.W.Frag) : List V → Hp → VK → Prop := fun xs H Q => ∃ p ys, xs = [.ref p] ∧ (SqL K H p ys ∨ SqT K H p ys) ∧ ∀ l, H l = none → Q (.ref l) (upd H l (.lst ys))
def rLenOf (K : PySem.W.Frag) : List V → Hp → VK → Prop := fun xs H Q => ∃ p ys, xs = [.ref p] ∧ (SqL K H p ys ∨ SqT K H p ys) ∧ Q (.int ys.length) H
theorem kIxL (h : X.K = K := by rfl) : IxR X (rIxL K) := by subst h; exact ix_list
theorem kIxT (h : X.K = K := by rfl) : IxR X (rIxT K) := by subst h; exact ix_tup
theorem kIn (h : X.K = K := by rfl) : OpR X (compareOp .In) (rIn K false) := by subst h; exact op_in_seq
theorem kNotIn (h : X.K = K := by rfl) : OpR X (compareOp .NotIn) (rIn K true) := by subst h; exact op_notIn_seq
theorem kEqD (hu : X.A.units + 64 < cLine) (h : X.K = K := by rfl) : OpR X (compareOp .Eq) (rEqD K) := by subst h; exact op_eqD hu
theorem kNeD (hu : X.A.units + 64 < cLine) (h : X.K = K := by rfl) : OpR X (compareOp .NotEq) (rNeD K) := by subst h; exact op_neD hu
theorem kLen (h : X.K = K := by rfl) : CallR X (.builtin "len") (rLenOf K) := by subst h; exact call_len_seq
theorem kAll (hc : X.calm = true) (h : X.K = K := by rfl) : CallR X (.builtin "all") (rAll K) := by subst h; exact cr_all hc
theorem kAny (hc : X.calm = true) (h : X.K = K := by rfl) : CallR X (.builtin "any") (rAny K) := by subst h; exact cr_any hc
theorem kSum (hc : X.calm = true) (h : X.K = K := by rfl) : CallR X (.builtin "sum") (rSum K) := by subst h; exact cr_sum hc
theorem kMax (hc : X.calm = true) (h : X.K = K := by rfl) : CallR X (.builtin "max") (rMax K) := by subst h; exact cr_max hc
theorem kIsi (h : X.K = K := by rfl) : CallR X (.builtin "isinstance") (rIsi K) := by subst h; exact call_isi
theorem kTup (h : X.K = K := by rfl) : CallR X (.type "tuple") (rTupOf K) := by subst h; exact call_tuple_of
theorem kList (h : X.K = K := by rfl) : CallR X (.type "list") (rListOf K) := by subst h; exact call_list_of
theorem kFld {e : Expr} {f : Str} {pos : Pos} {ta : TE} (he : PE X e ta) (hb : attributeBase e f X.env (eval e X.env) = eval e X.env) (h : X.K = K := by rfl) : PE X (.Attribute e f pos) (tFld K ta f) := by subst h; exact pe_fld he hb
theorem kPiL {tg l : Expr} {tl : TE} (hl : PE X l tl) (h : X.K = K := by rfl) : PI X tg l (iList K tl) := by subst h; exact pi_list hl
theorem kPiT {tg l : Expr} {tl : TE} (hl : PE X l tl) (h : X.K = K := by rfl) : PI X tg l (iTup K tl) := by subst h; exact pi_tup hl
theorem kPgT {es : List Expr} {k : Nat} {t : TGs} {n : Nat} {pos : Pos} (hc : X.calm = true) (hp : PGs X es t) (h : X.K = K := by rfl)
    (hn : (assignEach es X.env).length = n := by rfl) (hst : (assignEach es X.env).findIdx? (·.1) = none := by rfl) : PG X (.Tuple es k pos) (gTup K n t) := by subst h; exact pg_tup hc hp hn hst
end
def Fr1 (a : Addr) (H H' : Hp) : Prop := ∀ c o, c ≠ a → H c = some o → H' c = some o
theorem Fr1.refl (a : Addr) (H : Hp) : Fr1 a H H := fun _ _ _ h => h
theorem Fr1.trans {a : Addr} {H H1 H2 : Hp} (e : Fr1 a H H1) (f : Fr1 a H1 H2) : Fr1 a H H2 := fun c o n h => f c o n (e c o n h)
theorem Fr1.of {a : Addr} {H H' : Hp} (e : Same H H') : Fr1 a H H' := fun c o _ h => e c o h
theorem Fr1.upd {a p : Addr} {H H' : Hp} {o : HO} (e : Fr1 a H H') (h : H p = none) : Fr1 a H (upd H' p o) := fun c u n hc => by
  rw [upd_ne (ne_of_none hc h)]
  exact e c u n hc
theorem Fr1.at {a : Addr} {H H' : Hp} {o : HO} (e : Fr1 a H H') : Fr1 a H (L2.upd H' a o) := fun c u n hc => by
  rw [upd_ne n]
  exact e c u n hc
theorem Fr1.free {a p : Addr} {H H' : Hp} (e : Fr1 a H H') (n : p ≠ a) (h : H' p = none) : H p = none := by
  cases q : H p with
  | none => rfl
  | some o =>
    rw [e p o n q] at h
    cases h
theorem Same.upd {p : Addr} {H H' : Hp} {o : HO} (e : Same H H') (h : H p = none) : Same H (L2.upd H' p o) := fun c u hc => by
  rw [upd_ne (ne_of_none hc h)]
  exact e c u hc
theorem Same.fr1 {a : Addr} {H H1 H2 : Hp} (e : Same H H1) (f : Fr1 a H1 H2) (h : H a = none) : Same H H2 := fun c o hc => f c o (ne_of_none hc h) (e c o hc)
theorem Same.made' {H H' : Hp} {x dx C : Addr} (nx : H x = none) (nd : H dx = none) (e : Fr1 x (L2.upd (L2.upd H dx (.own x)) x (.ins C dx [])) H') : Same H H' := fun c o hc => by
  refine e c o (ne_of_none hc nx) ?_
  rw [upd_ne (ne_of_none hc nx), upd_ne (ne_of_none hc nd)]
  exact hc
theorem Same.none {p : Addr} {H H' : Hp} (e : Same H H') (h : H' p = none) : H p = none := e.free h
theorem Same.upd' {p : Addr} {H H' : Hp} {o : HO} (e : Same H H') (h : H p = Option.none) : Same H (L2.upd H' p o) := Same.upd e h
def KT (H H' : Hp) : Prop := ∀ a xs, H a = some (.tup xs) → H' a = some (.tup xs)
theorem KT.refl (H : Hp) : KT H H := fun _ _ h => h
theorem KT.trans {H H1 H2 : Hp} (e : KT H H1) (f : KT H1 H2) : KT H H2 := fun a xs h => f a xs (e a xs h)
theorem KT.of {H H' : Hp} (e : Same H H') : KT H H' := fun a xs h => e a _ h
theorem Fr1.kt {a : Addr} {H H' : Hp} {xs : List V} (e : Fr1 a H H') (h : H a = some (.lst xs)) : KT H H' := fun c ys hc => e c _ (ne_of hc h (by intro z; cases z)) hc
theorem KT.upd {p : Addr} {H H' : Hp} {o : HO} (e : KT H H') (h : H p = none) : KT H (L2.upd H' p o) := fun c xs hc => by
  rw [upd_ne (ne_of_none hc h)]
  exact e c xs hc
theorem KT.updL {p : Addr} {H H' : Hp} {ys : List V} {o : HO} (e : KT H H') (h : H' p = some (.lst ys)) : KT H (L2.upd H' p o) := fun c xs hc => by
  have q := e c xs hc
  rw [upd_ne (ne_of q h (by intro z; cases z))]
  exact q

mutual
inductive Td (H : Hp) : V → PyData → Prop
  | non : Td H .non .none
  | bl (b : Bool) : Td H (.bl b) (.bool b)
  | int (i : Int) : Td H (.int i) (.int i)
  | str (x : Str) : Td H (.str x) (.str x)
  | tup {a : Addr} {xs : List V} {ds : List PyData} : H a = some (.tup xs) → TdAll H xs ds → Td H (.ref a) (.tuple ds)
inductive TdAll (H : Hp) : List V → List PyData → Prop
  | nil : TdAll H [] []
  | cons {v : V} {vs : List V} {d : PyData} {ds : List PyData} : Td H v d → TdAll H vs ds → TdAll H (v :: vs) (d :: ds)
end
section
variable {H H' : Hp} {K : PySem.W.Frag}
mutual
theorem Td.mono (e : KT H H') : ∀ {v : V} {d : PyData}, Td H v d → Td H' v d
  | _, _, .non => .non
  | _, _, .bl b => .bl b
  | _, _, .int i => .int i
  | _, _, .str x => .str x
  | _, _, .tup h r => .tup (e _ _ h) (TdAll.mono e r)
theorem TdAll.mono (e : KT H H') : ∀ {vs : List V} {ds : List PyData}, TdAll H vs ds → TdAll H' vs ds
  | _, _, .nil => .nil
  | _, _, .cons h r => .cons (Td.mono e h) (TdAll.mono e r)
end
mutual
theorem Td.dp : ∀ {v : V} {d : PyData}, Td H v d → Dp K H v d
  | _, _, .non => .non
  | _, _, .bl b => .bl b
  | _, _, .int i => .int i
  | _, _, .str x => .str x
  | _, _, .tup h r => .tup (SqT.of h) (TdAll.dp r)
theorem TdAll.dp : ∀ {vs : List V} {ds : List PyData}, TdAll H vs ds → DpAll K H vs ds
  | _, _, .nil => .nil
  | _, _, .cons h r => .cons (Td.dp h) (TdAll.dp r)
end
theorem TdAll.length : ∀ {vs : List V} {ds : List PyData}, TdAll H vs ds → vs.length = ds.length
  | _, _, .nil => rfl
  | _, _, .cons _ r => by rw [List.length_cons, List.length_cons, TdAll.length r]
theorem TdAll.get : ∀ {vs : List V} {ds : List PyData} {i : Nat} {v : V}, TdAll H vs ds → vs[i]? = some v → ∃ d, ds[i]? = some d ∧ Td H v d
  | _, _, i, _, .nil, h => by simp at h
  | _, _, 0, _, .cons h _, e => ⟨_, rfl, by
      have e : _ = _ := Option.some.inj e
      rw [← e]
      exact h⟩
  | _, _, i + 1, _, .cons _ r, e => TdAll.get (i := i) r e
theorem TdAll.get' : ∀ {vs : List V} {ds : List PyData} {i : Nat} {d : PyData}, TdAll H vs ds → ds[i]? = some d → ∃ v, vs[i]? = some v ∧ Td H v d
  | _, _, i, _, .nil, h => by simp at h
  | _, _, 0, _, .cons h _, e => ⟨_, rfl, by
      have e : _ = _ := Option.some.inj e
      rw [← e]
      exact h⟩
  | _, _, i + 1, _, .cons _ r, e => TdAll.get' (i := i) r e
theorem TdAll.append : ∀ {vs us : List V} {ds es : List PyData}, TdAll H vs ds → TdAll H us es → TdAll H (vs ++ us) (ds ++ es)
  | _, _, _, _, .nil, r => r
  | _, _, _, _, .cons h t, r => .cons h (TdAll.append t r)
theorem TdAll.snoc {vs : List V} {ds : List PyData} {v : V} {d : PyData} (r : TdAll H vs ds) (h : Td H v d) : TdAll H (vs ++ [v]) (ds ++ [d]) := r.append (.cons h .nil)
theorem TdAll.strs : ∀ (ws : List Str), TdAll H (ws.map V.str) (ws.map PyData.str)
  | [] => .nil
  | w :: ws => .cons (.str w) (TdAll.strs ws)
theorem Td.str_inv {v : V} {x : Str} (h : Td H v (.str x)) : v = .str x := by cases h; rfl
theorem Td.bl_inv {v : V} {b : Bool} (h : Td H v (.bool b)) : v = .bl b := by cases h; rfl
theorem Td.int_inv {v : V} {i : Int} (h : Td H v (.int i)) : v = .int i := by cases h; rfl
theorem Td.tup_inv {v : V} {ds : List PyData} (h : Td H v (.tuple ds)) : ∃ a xs, v = .ref a ∧ H a = some (.tup xs) ∧ TdAll H xs ds := by
  cases h with
  | tup h r => exact ⟨_, _, rfl, h, r⟩
theorem TdAll.strs_inv : ∀ {vs : List V} {ws : List Str}, TdAll H vs (ws.map PyData.str) → vs = ws.map V.str
  | _, [], h => by cases h; rfl
  | _, w :: ws, h => by
    cases h with
    | cons h r => rw [List.map_cons, ← TdAll.strs_inv r, Td.str_inv h]
theorem Td.kt_same {v : V} {d : PyData} (e : Same H H') (h : Td H v d) : Td H' v d := h.mono (KT.of e)
end

def StAt (H : Hp) (a : Addr) (n : Nat) : Prop := ∃ x y k : Int, H a = some (.lst [.int x, .int y, .int k]) ∧ 0 ≤ k ∧ k + n ≤ 1000000
theorem StAt.mono {H : Hp} {a : Addr} {n m : Nat} (h : StAt H a m) (l : n ≤ m) : StAt H a n := by
  obtain ⟨x, y, k, h1, h2, h3⟩ := h
  exact ⟨x, y, k, h1, h2, by omega⟩
theorem StAt.lst {H : Hp} {a : Addr} {n : Nat} (h : StAt H a n) : ∃ xs, H a = some (.lst xs) := by
  obtain ⟨x, y, k, h1, _⟩ := h
  exact ⟨_, h1⟩
theorem StAt.kt {H H' : Hp} {a : Addr} {n : Nat} (h : StAt H a n) (e : Fr1 a H H') : KT H H' := by
  obtain ⟨xs, hx⟩ := h.lst
  exact e.kt hx
theorem StAt.same {H H' : Hp} {a : Addr} {n : Nat} (h : StAt H a n) (e : Same H H') : StAt H' a n := by
  obtain ⟨x, y, k, h1, h2, h3⟩ := h
  exact ⟨x, y, k, e _ _ h1, h2, h3⟩
theorem StAt.fr {H H' : Hp} {a b : Addr} {n : Nat} (h : StAt H a n) (e : Fr1 b H H') (ne : a ≠ b) : StAt H' a n := by
  obtain ⟨x, y, k, h1, h2, h3⟩ := h
  exact ⟨x, y, k, e _ _ ne h1, h2, h3⟩
theorem StAt.upd {H : Hp} {a p : Addr} {n : Nat} {o : HO} (h : StAt H a n) (ne : a ≠ p) : StAt (upd H p o) a n := by
  obtain ⟨x, y, k, h1, h2, h3⟩ := h
  exact ⟨x, y, k, by rw [upd_ne ne]; exact h1, h2, h3⟩
theorem StAt.ne {H : Hp} {a p : Addr} {n : Nat} (h : StAt H a n) (e : H p = none) : a ≠ p := by
  obtain ⟨x, y, k, h1, _⟩ := h
  exact ne_of_none h1 e

structure Nm (w : Str) : Prop where
  lo : 1 ≤ w.length
  hi : w.length ≤ 8
  az : ∀ c ∈ w.cps.toList, 97 ≤ c ∧ c ≤ 122
def abc : Str := "abcdefghijklmnopqrstuvwxyz"
theorem abc_list : abc.cps.toList = (List.range 26).map (97 + ·) := by decide +kernel
theorem abc_len : abc.length = 26 := by decide +kernel
theorem abc_mem (c : Nat) : c ∈ abc.cps.toList ↔ 97 ≤ c ∧ c ≤ 122 := by
  rw [abc_list, List.mem_map]
  constructor
  · rintro ⟨i, hi, rfl⟩
    rw [List.mem_range] at hi
    omega
  · rintro ⟨h1, h2⟩
    exact ⟨c - 97, List.mem_range.mpr (by omega), by omega⟩
theorem abc_at (i : Nat) (h : i < 26) : abc.cps.toList[i]? = some (97 + i) := by
  rw [abc_list, List.getElem?_map, List.getElem?_range h]
  rfl
theorem Nm.sign {c : Nat} (h : 97 ≤ c ∧ c ≤ 122) : Nm ⟨#[c]⟩ := by
  refine ⟨(by show 1 ≤ 1; decide), (by show 1 ≤ 8; decide), fun d hd => ?_⟩
  have : d = c := by simpa using hd
  rw [this]
  exact h
theorem sizeL {n : Nat} (h : n ≤ 100000) : n ≤ sizeLine := Nat.le_trans h (by decide)
theorem sizeLt {n : Nat} (h : n < 100000) : n < sizeLine := Nat.lt_of_lt_of_le h (by decide)
section
variable {X : Cx}
theorem ps_setDc {i : Nat} {y : Str} {py : Pos} {kx vx tg iter : Expr} {ifs : List Expr} {scope : Scope} {own : List (Str × Nat)} {pos spos : Pos} {wi : TI} {g : TG} {tt : TT} {tk tv : TE} (hc : X.calm = true) (hN : X.N.Nodup) (hy : X.N[i]? = some y) (hyl : X.env.scope.names.lookup y = some .local)
    (hsw : swapsWith (.DictComp kx vx [⟨tg, iter, ifs, 0⟩] scope pos) (some (.Name y py)) spos.line X.env = pure true) (hi : PI X tg iter wi) (ok : BlkOk X.N X.env.scope scope own)
    (hg : ∀ (s : Shared) (H : Hp) (C : Addr) (cl : List (Str × Addr)) (fp : List Addr), PG (X.blk s H scope (compEnvC scope cl C X.env) fp) tg g)
    (ht : ∀ (s : Shared) (H : Hp) (C : Addr) (cl : List (Str × Addr)) (fp : List Addr), PTs (X.blk s H scope (compEnvC scope cl C X.env) fp) ifs tt)
    (hk : ∀ (s : Shared) (H : Hp) (C : Addr) (cl : List (Str × Addr)) (fp : List Addr), PE (X.blk s H scope (compEnvC scope cl C X.env) fp) kx tk)
    (he : ∀ (s : Shared) (H : Hp) (C : Addr) (cl : List (Str × Addr)) (fp : List Addr), PE (X.blk s H scope (compEnvC scope cl C X.env) fp) vx tv) (hs : ∀ x, foldedSetIterable iter X.env x = pure x := by intro _; rfl) :
    PS X (.Assign [.Name y py] (.DictComp kx vx [⟨tg, iter, ifs, 0⟩] scope pos) spos) (tAsg (tDc wi g tt tk tv (own.map (·.2))) (gName i)) := by
  refine ⟨fun pins s0 σ H0 Dn I0 h0 => ?_⟩
  rw [(exec_Assign_Name_used _ _ _ _ hsw :)]; refine wpAny_bind (wpAny_standAt <| wpAny_bind ?_)
  show wpAny _ X.A (do let _ ← comprehension (.DictComp kx vx [⟨tg, iter, ifs, 0⟩] scope pos) scope X.env (firstIterPos [⟨tg, iter, ifs, 0⟩] pos) newDict false (eval iter X.env) (some (assign (.Name y py) X.env))) _ _ s0
  have h0 : tDc wi g tt tk tv (own.map (·.2)) σ H0 (fun x H1 => gName i x σ H1 Dn.nx) := h0
  refine wpAny_bind (thn (dc_core (Qf := fun _ s9 => SP X pins Dn .next s9) hc hN I0 hi ok hg ht hk he hs h0 fun L C s9 m H9 I9 q hn ff => ?_) fun _ s9 hq => wpAny_pure (wpAny_pure hq))
  show wpAny _ _ (assign (.Name y py) X.env (.ref L)) _ _ s9
  refine wpAny_assign_Name (store_ok2 (v := V.ref L) I9 hN hy (.inl hyl) rfl (fun s8 I8 ⟨a, sb, ha⟩ => ?_) (.inr hyl)); obtain ⟨z0, z1, z2, z3, z4, z5⟩ := ff
  have ca : C ≠ a := ha.elim (fun z => by rw [z]; exact z1) fun z e => z4 y a z e.symm
  refine ⟨m, hn.sameBut sb ca, fun h8 sb8 => ⟨_, H9, I8.turned (t' := s8.toks) (fun b o hb e => (sb8.2 b hb).trans e) z0 z1 z3 z4 z5, q⟩⟩
theorem swd_true {kx vx : Expr} {gs : List Comprehension} {scope : Scope} {pos py : Pos} {y : Str} {l : Nat} {env : Env} (hk : env.scope.kind = .function) (hy : env.scope.names.lookup y = some .local) (hl : (py.line == pos.line) = true)
    (ha : (scope.names.any fun (n, k) => n == y && (k == .local || k == .cell)) = false) : swapsWith (.DictComp kx vx gs scope pos) (some (.Name y py)) l env = pure true := by
  have kl : env.kindOf y = some .local := hy
  have kb : env.blockKind = .function := by unfold Env.blockKind; rw [hk] <;> rfl
  unfold swapsWith; simp only [kb, kl, ha, Expr.pos, hl] <;> rfl
end
end My
namespace My
open PySem L2
theorem tYes_if {σ : L2.St} {H : Hp} {A B : Hp → Prop} (h : A H) : tYes σ H (fun b H3 => if b = true then A H3 else B H3) := by
  show (if true = true then A H else B H)
  rw [if_pos rfl]
  exact h
abbrev cd (w : Str) : List Nat := w.cps.toList
theorem cd_len (w : Str) : w.length = (cd w).length := by
  show w.cps.size = w.cps.toList.length
  rw [Array.length_toList]
theorem cd_ext {v w : Str} (h : cd v = cd w) : v = w := by
  cases v
  cases w
  congr
  exact Array.ext' h
theorem cd_app (v w : Str) : cd (v ++ w) = cd v ++ cd w := by
  show (v.cps ++ w.cps).toList = _
  rw [Array.toList_append]
theorem cd_sign (c : Nat) : cd ⟨#[c]⟩ = [c] := rfl
theorem Nm.of {w : Str} {cs : List Nat} (e : cd w = cs) (h1 : 1 ≤ cs.length) (h8 : cs.length ≤ 8) (az : ∀ c ∈ cs, 97 ≤ c ∧ c ≤ 122) : Nm w := by
  subst e
  exact ⟨by rw [cd_len]; exact h1, by rw [cd_len]; exact h8, az⟩
theorem Nm.l1 {w : Str} (h : Nm w) : 1 ≤ (cd w).length := by
  rw [← cd_len]
  exact h.lo
theorem Nm.l8 {w : Str} (h : Nm w) : (cd w).length ≤ 8 := by
  rw [← cd_len]
  exact h.hi
theorem joinL_signs : ∀ cs : List Nat, TL.joinL [] (cs.map fun c => [c]) = cs
  | [] => rfl
  | [c] => rfl
  | c :: d :: r => by
    show [c] ++ ([] ++ TL.joinL [] ((d :: r).map fun c => [c])) = _
    rw [joinL_signs (d :: r)]
    rfl
theorem cd_join (cs : List Nat) : cd (Txt.join (Str.ofString "") (cs.map fun c => (⟨#[c]⟩ : Str))) = cs := by
  rw [TL.join_eq]
  have h := TL.tl_join (Str.ofString "") (cs.map fun c => (⟨#[c]⟩ : Str))
  have e : (cs.map fun c => (⟨#[c]⟩ : Str)).map TL.tl = cs.map fun c => [c] := by
    rw [List.map_map]
    rfl
  rw [e] at h
  have h2 : TL.tl (Str.ofString "") = [] := by decide +kernel
  rw [h2, joinL_signs] at h
  exact h
theorem cut_to (z : Str) (i : Nat) (h : i ≤ z.length) : cd (cutS z none (some (i : Int))) = (cd z).take i := by
  show ((z.cps.toList.drop (HT.sIx z.length 0 none)).take (HT.sIx z.length z.length (some (i : Int)) - HT.sIx z.length 0 none)).toArray.toList = _
  rw [HT.sIx_none, HT.sIx_nat, List.toList_toArray, List.drop_zero, Nat.min_eq_left h]
  rfl
theorem cut_from (z : Str) (i : Nat) : cd (cutS z (some (i : Int)) none) = (cd z).drop i := by
  show ((z.cps.toList.drop (HT.sIx z.length 0 (some (i : Int)))).take (HT.sIx z.length z.length none - HT.sIx z.length 0 (some (i : Int)))).toArray.toList = _
  rw [HT.sIx_none, HT.sIx_nat, List.toList_toArray]
  have e : z.length = z.cps.toList.length := cd_len z
  rcases Nat.le_total i z.length with l | l
  · rw [Nat.min_eq_left l, List.take_of_length_le]
    rw [List.length_drop, ← e]
    exact Nat.le_refl _
  · rw [Nat.min_eq_right l, List.drop_eq_nil_of_le (by rw [← e]; exact Nat.le_refl _), List.take_nil]
    exact (List.drop_eq_nil_of_le (by rw [← e]; exact l)).symm
theorem Nm.bent {w v : Str} {i c : Nat} (h : Nm w) (hi : i < (cd w).length) (hc : 97 ≤ c ∧ c ≤ 122) (e : cd v = (cd w).take i ++ [c] ++ (cd w).drop (i + 1)) : Nm v := by
  have l8 := h.l8
  refine Nm.of e ?_ ?_ fun d hd => ?_
  · simp only [List.length_append, List.length_take, List.length_drop, List.length_singleton]
    omega
  · simp only [List.length_append, List.length_take, List.length_drop, List.length_singleton]
    omega
  · rcases List.mem_append.mp hd with m | m
    · rcases List.mem_append.mp m with m | m
      · exact h.az d (List.mem_of_mem_take m)
      · rw [List.mem_singleton.mp m]
        exact hc
    · exact h.az d (List.mem_of_mem_drop m)
theorem Nm.more {w v : Str} {c : Nat} (h : Nm w) (l : (cd w).length < 8) (hc : 97 ≤ c ∧ c ≤ 122) (e : cd v = cd w ++ [c]) : Nm v := by
  refine Nm.of e ?_ ?_ fun d hd => ?_
  · simp only [List.length_append, List.length_singleton]
    omega
  · simp only [List.length_append, List.length_singleton]
    omega
  · rcases List.mem_append.mp hd with m | m
    · exact h.az d m
    · rw [List.mem_singleton.mp m]
      exact hc
theorem Nm.less {w v : Str} {i : Nat} (h : Nm w) (hi : i < (cd w).length) (l : 1 < (cd w).length) (e : cd v = (cd w).take i ++ (cd w).drop (i + 1)) : Nm v := by
  have l8 := h.l8
  refine Nm.of e ?_ ?_ fun d hd => ?_
  · simp only [List.length_append, List.length_take, List.length_drop]
    omega
  · simp only [List.length_append, List.length_take, List.length_drop]
    omega
  · rcases List.mem_append.mp hd with m | m
    · exact h.az d (List.mem_of_mem_take m)
    · exact h.az d (List.mem_of_mem_drop m)
theorem pigeon : ∀ (l m : List Str), l.Nodup → (∀ x ∈ l, x ∈ m) → l.length ≤ m.length
  | [], _, _, _ => Nat.zero_le _
  | x :: r, m, h, s => by
    obtain ⟨h1, h2⟩ := List.nodup_cons.mp h
    have hm := s x List.mem_cons_self
    have := pigeon r (m.erase x) h2 fun y hy => (List.mem_erase_of_ne (fun e => h1 (by rw [← e]; exact hy))).mpr (s y (List.mem_cons_of_mem _ hy))
    have e := List.length_erase_of_mem hm
    have p := List.length_pos_of_mem hm
    rw [List.length_cons]
    omega
section
variable {g : TG} {tt : TT} {te : TE} {vs : List Nat} {σ : L2.St} {H1 : Hp} {D : Addr} {Qd : Hp → Prop} {x : Str}
theorem lc_str (Pv : Nat → Hp → Prop) (h0 : Pv 0 (upd H1 D (.lst [])))
    (hs : ∀ i c Hi, x.cps[i]? = some c → Pv i Hi → g (.str ⟨#[c]⟩) (wipe σ vs) Hi fun σ2 H2 => wipe σ2 vs = wipe σ vs ∧ tt σ2 H2 fun b H3 =>
      if b = true then te σ2 H3 fun y H4 => ∃ acc, H4 D = some (.lst acc) ∧ acc.length < sizeLine ∧ Pv (i + 1) (upd H4 D (.lst (acc ++ [y]))) else Pv (i + 1) H3)
    (hd : ∀ Hi, Pv x.cps.size Hi → Qd Hi) :
    ∃ W : Nat → Nat → Hp → Prop, (∃ m, W 0 m (upd H1 D (.lst []))) ∧ ∀ i m Hi, W i m Hi →
      ((Its x).stop i Hi ∧ Qd Hi) ∨ ((Its x).go i Hi ∧ ∃ Nx : Hp → Prop, (∀ H', Nx H' → ∃ m', m' < m ∧ W (i + 1) m' H') ∧ ∀ v H', (Its x).yld i Hi v H' → g v (wipe σ vs) H' fun σ2 H2 => wipe σ2 vs = wipe σ vs ∧ tt σ2 H2 fun b H3 =>
        if b = true then te σ2 H3 fun y H4 => ∃ acc, H4 D = some (.lst acc) ∧ acc.length < sizeLine ∧ Nx (upd H4 D (.lst (acc ++ [y]))) else Nx H3) := by
  refine ⟨fun i m Hi => m = x.cps.size - i ∧ i ≤ x.cps.size ∧ Pv i Hi, ⟨_, rfl, Nat.zero_le _, h0⟩, ?_⟩
  rintro i m Hi ⟨em, hi, p⟩
  by_cases l : i < x.cps.size
  · refine Or.inr ⟨l, Pv (i + 1), fun H' p' => ⟨_, by omega, rfl, l, p'⟩, ?_⟩
    rintro v H' ⟨eh, c, hc, rfl⟩
    rw [eh]
    exact hs i c Hi hc p
  · obtain rfl : i = x.cps.size := by omega
    exact Or.inl ⟨Nat.le_refl _, hd Hi p⟩
end
theorem free_letter (ws : List Str) (h : ws.length < 26) : ∃ j, j < 26 ∧ (⟨#[97 + j]⟩ : Str) ∉ ws := by
  by_cases g : ∀ j, j < 26 → (⟨#[97 + j]⟩ : Str) ∈ ws
  · exfalso
    have nd : ((List.range 26).map fun j => (⟨#[97 + j]⟩ : Str)).Nodup := by decide +kernel
    have sub : ∀ x ∈ ((List.range 26).map fun j => (⟨#[97 + j]⟩ : Str)), x ∈ ws := by
      intro x hx
      obtain ⟨j, hj, rfl⟩ := List.mem_map.mp hx
      exact g j (List.mem_range.mp hj)
    have l := pigeon _ _ nd sub
    rw [List.length_map, List.length_range] at l
    omega
  · simp only [Classical.not_forall] at g
    obtain ⟨j, hj, hn⟩ := g
    exact ⟨j, hj, hn⟩
theorem flat_strs (ws : List Str) : (ws.map V.str).all flatV = true := by
  induction ws with
  | nil => rfl
  | cons w r ih =>
    rw [List.map_cons, List.all_cons, ih]
    rfl
theorem inV_strs (x : Str) : ∀ ws : List Str, inV (.str x) (ws.map V.str) = decide (x ∈ ws)
  | [] => by
    rw [List.map_nil]
    simp [inV]
  | w :: r => by
    have ih := inV_strs x r
    unfold inV at ih ⊢
    rw [List.map_cons, List.any_cons, ih]
    by_cases e : w = x
    · subst e
      simp [eqV]
    · have e' : ¬ x = w := fun q => e q.symm
      simp [eqV, e, e']
end My
namespace My
open PySem L2
def Fine (n : Nat) (d : PyData) : Prop := d.canLay0 = true ∧ d.depth ≤ n
theorem Fine.sh {n : Nat} {d : PyData} (h : Fine n d) (l : n ≤ 64) : SeqAt.shaped d = true := by
  show (d.canLay0 && decide (d.depth ≤ 64)) = true
  rw [h.1, decide_eq_true (Nat.le_trans h.2 l)]
  rfl
theorem Fine.self {n : Nat} {d : PyData} (h : Fine n d) : PyData.eqv d d = true := PySem.SeqAt.eqv_refl d h.1
theorem Fine.up {n m : Nat} {d : PyData} (h : Fine n d) (l : n ≤ m) : Fine m d := ⟨h.1, Nat.le_trans h.2 l⟩
theorem canAll : ∀ {ds : List PyData}, (∀ d ∈ ds, d.canLay0 = true) → PyData.canLayAll0 ds = true
  | [], _ => by simp only [PyData.canLayAll0]
  | d :: r, h => by
    simp only [PyData.canLayAll0]
    rw [h d List.mem_cons_self, canAll fun x hx => h x (List.mem_cons_of_mem _ hx)]
    rfl
theorem depAll : ∀ {ds : List PyData} {n : Nat}, (∀ d ∈ ds, d.depth ≤ n) → PyData.depthAll ds ≤ n
  | [], n, _ => by simp [PyData.depthAll]
  | d :: r, n, h => by
    simp only [PyData.depthAll]
    have h1 := h d List.mem_cons_self
    have h2 := depAll (ds := r) fun x hx => h x (List.mem_cons_of_mem _ hx)
    omega
theorem Fine.tup {n : Nat} {ds : List PyData} (h : ∀ d ∈ ds, Fine n d) : Fine (n + 1) (.tuple ds) := by
  refine ⟨?_, ?_⟩
  · simp only [PyData.canLay0]
    exact canAll fun d hd => (h d hd).1
  · simp only [PyData.depth]
    have := depAll fun d hd => (h d hd).2
    omega
theorem Fine.lst {n : Nat} {ds : List PyData} (h : ∀ d ∈ ds, Fine n d) : Fine (n + 1) (.list ds) := by
  refine ⟨?_, ?_⟩
  · simp only [PyData.canLay0]
    exact canAll fun d hd => (h d hd).1
  · simp only [PyData.depth]
    have := depAll fun d hd => (h d hd).2
    omega
theorem Fine.int (i : Int) : Fine 1 (.int i) := ⟨by simp only [PyData.canLay0], by simp only [PyData.depth]; omega⟩
theorem Fine.bool (b : Bool) : Fine 1 (.bool b) := ⟨by simp only [PyData.canLay0], by simp only [PyData.depth]; omega⟩
theorem Fine.none : Fine 1 .none := ⟨by simp only [PyData.canLay0], by simp only [PyData.depth]; omega⟩
theorem Fine.str {x : Str} (h : ∀ c ∈ cd x, c < 0x110000) : Fine 1 (.str x) := by
  refine ⟨?_, by simp only [PyData.depth]; omega⟩
  simp only [PyData.canLay0]
  show x.cps.all (· < 0x110000) = true
  rw [← Array.all_toList, List.all_eq_true]
  intro c hc
  exact decide_eq_true (h c hc)
theorem Nm.fine {x : Str} (h : Nm x) : Fine 1 (.str x) := Fine.str fun c hc => by
  have := h.az c hc
  omega
theorem fine_strs {ws : List Str} (h : ∀ w ∈ ws, Nm w) : ∀ d ∈ ws.map PyData.str, Fine 1 d := by
  intro d hd
  obtain ⟨w, hw, rfl⟩ := List.mem_map.mp hd
  exact (h w hw).fine
theorem eqv_lists_nil (ds : List PyData) : PyData.eqv (.list ds) (.list []) = ds.isEmpty := by
  cases ds <;> simp [PyData.eqv, PyData.eqvAll]
theorem eqv_tups_nil (ds : List PyData) : PyData.eqv (.tuple ds) (.tuple []) = ds.isEmpty := by
  cases ds <;> simp [PyData.eqv, PyData.eqvAll]

abbrev Ref := Str × Str
abbrev Ent := Str × Bool × List Ref
abbrev Plan := List Ent
def refD (r : Ref) : PyData := .tuple [.str r.1, .str r.2]
def refsD (rs : List Ref) : PyData := .tuple (rs.map refD)
def entD (e : Ent) : PyData := .tuple [.str e.1, .bool e.2.1, refsD e.2.2]
def planD (p : Plan) : PyData := .tuple (p.map entD)
structure GoodRefs (names : List Str) (rs : List Ref) : Prop where
  len : rs.length ≤ 3
  nm : ∀ r ∈ rs, Nm r.1
  to : ∀ r ∈ rs, r.2 ∈ names
  nd : (rs.map (·.1)).Nodup
structure Good (p : Plan) : Prop where
  lo : 1 ≤ p.length
  hi : p.length ≤ 5
  nm : ∀ e ∈ p, Nm e.1
  nd : (p.map (·.1)).Nodup
  refs : ∀ e ∈ p, GoodRefs (p.map (·.1)) e.2.2
theorem Good.names {p : Plan} (g : Good p) : ∀ w ∈ p.map (·.1), Nm w := by
  intro w hw
  obtain ⟨e, he, rfl⟩ := List.mem_map.mp hw
  exact g.nm e he
theorem Good.toNm {p : Plan} (g : Good p) {e : Ent} (he : e ∈ p) {r : Ref} (hr : r ∈ e.2.2) : Nm r.2 := g.names _ ((g.refs e he).to r hr)
theorem refD_fine {r : Ref} (h1 : Nm r.1) (h2 : Nm r.2) : Fine 2 (refD r) := Fine.tup (n := 1) fun d hd => by
  rcases List.mem_cons.mp hd with rfl | hd
  · exact h1.fine
  · rw [List.mem_singleton.mp hd]
    exact h2.fine
theorem Good.refsD_fine {p : Plan} (g : Good p) {e : Ent} (he : e ∈ p) : Fine 3 (refsD e.2.2) := Fine.tup (n := 2) fun d hd => by
  obtain ⟨r, hr, rfl⟩ := List.mem_map.mp hd
  exact refD_fine ((g.refs e he).nm r hr) (g.toNm he hr)
theorem Good.entD_fine {p : Plan} (g : Good p) {e : Ent} (he : e ∈ p) : Fine 4 (entD e) := Fine.tup (n := 3) fun d hd => by
  rcases List.mem_cons.mp hd with rfl | hd
  · exact (g.nm e he).fine.up (by decide)
  · rcases List.mem_cons.mp hd with rfl | hd
    · exact (Fine.bool _).up (by decide)
    · rw [List.mem_singleton.mp hd]
      exact g.refsD_fine he
theorem Good.fine {p : Plan} (g : Good p) : Fine 5 (planD p) := Fine.tup (n := 4) fun d hd => by
  obtain ⟨e, he, rfl⟩ := List.mem_map.mp hd
  exact g.entD_fine he
end My
namespace My
open PySem PySem.Spec PyProof.Rows L2
def rInG (K : PySem.W.Frag) : R2 := fun x y H Q => (∃ a o, y = .ref a ∧ DGet H a x o ∧ Q (.bl o.isSome) H) ∨ rIn K false x y H Q
theorem kInG {X : Cx} {K : PySem.W.Frag} (hu : X.A.units + 1 < cLine) (h : X.K = K := by rfl) : OpR X (compareOp .In) (rInG K) := by
  subst h
  intro pins s σ H x y v u Q I rx ry hq
  rcases hq with ⟨a, o, rfl, g, q⟩ | hq
  · obtain rfl : u = Value.ref a := ry
    exact d_in hu I g rx fun s3 I3 => ⟨.bl o.isSome, H, I3, rfl, q⟩
  · exact op_in_seq pins s σ H x y v u Q I rx ry hq
section
variable {K : PySem.W.Frag} {g g1 : TG} {tt tt1 : TT} {te : TE} {vs vs1 : List Nat} {σ σ2 : L2.St} {wi1 : TI}
def In2 (J : It) (g1 : TG) (tt1 : TT) (te : TE) (vs1 : List Nat) (σ2 : L2.St) (D : Addr) (Nx : Hp → Prop) (H4 : Hp) : Prop := ∃ W1 : Nat → Nat → Hp → Prop, (∃ m, W1 0 m H4) ∧ ∀ j k H, W1 j k H →
  (J.stop j H ∧ Nx H) ∨ (J.go j H ∧ ∃ Nx1 : Hp → Prop, (∀ H', Nx1 H' → ∃ k', k' < k ∧ W1 (j + 1) k' H') ∧ ∀ x H', J.yld j H x H' → g1 x (wipe σ2 vs1) H' fun σ3 H5 => wipe σ3 vs1 = wipe σ2 vs1 ∧ tt1 σ3 H5 fun b H6 =>
    if b = true then te σ3 H6 fun y H7 => ∃ acc, H7 D = some (.lst acc) ∧ acc.length < sizeLine ∧ Nx1 (upd H7 D (.lst (acc ++ [y]))) else Nx1 H6)
theorem in2_tup {a : Addr} {xs : List V} {D : Addr} {Nx : Hp → Prop} {H4 : Hp} (Pv : Nat → Hp → Prop) (h0 : Pv 0 H4) (hl : ∀ j Hj, j ≤ xs.length → Pv j Hj → SqT K Hj a xs)
    (hs : ∀ j x Hj, xs[j]? = some x → Pv j Hj → g1 x (wipe σ2 vs1) Hj fun σ3 H5 => wipe σ3 vs1 = wipe σ2 vs1 ∧ tt1 σ3 H5 fun b H6 =>
      if b = true then te σ3 H6 fun y H7 => ∃ acc, H7 D = some (.lst acc) ∧ acc.length < sizeLine ∧ Pv (j + 1) (upd H7 D (.lst (acc ++ [y]))) else Pv (j + 1) H6)
    (hd : ∀ Hj, Pv xs.length Hj → Nx Hj) : In2 (Itt K a) g1 tt1 te vs1 σ2 D Nx H4 := by
  refine ⟨fun j m Hj => m = xs.length - j ∧ j ≤ xs.length ∧ Pv j Hj, ⟨_, rfl, Nat.zero_le _, h0⟩, ?_⟩
  rintro j m Hj ⟨em, hj, p⟩
  have q := hl j Hj hj p
  by_cases l : j < xs.length
  · refine Or.inr ⟨⟨xs, xs[j], q, by simp [l]⟩, Pv (j + 1), fun H' p' => ⟨_, by omega, rfl, l, p'⟩, ?_⟩
    rintro x H' ⟨eh, hx⟩
    rw [eh]
    exact hs j x Hj (hx xs q) p
  · obtain rfl : j = xs.length := by omega
    exact Or.inl ⟨⟨xs, q, Nat.le_refl _⟩, hd Hj p⟩
theorem lc2_tup {a : Addr} {xs : List V} {D : Addr} {Qd : Hp → Prop} {H1 : Hp} (Pv : Nat → Hp → Prop) (h0 : Pv 0 (upd H1 D (.lst []))) (hl : ∀ i Hi, i ≤ xs.length → Pv i Hi → SqT K Hi a xs)
    (hs : ∀ i x Hi, xs[i]? = some x → Pv i Hi → g x (wipe σ vs) Hi fun σ2 H2 => wipe σ2 vs = wipe σ vs ∧ tt σ2 H2 fun b H3 =>
      if b = true then wi1 σ2 H3 fun J1 H4 => In2 J1 g1 tt1 te vs1 σ2 D (Pv (i + 1)) H4 else Pv (i + 1) H3)
    (hd : ∀ Hi, Pv xs.length Hi → Qd Hi) :
    ∃ W : Nat → Nat → Hp → Prop, (∃ m, W 0 m (upd H1 D (.lst []))) ∧ ∀ i m H, W i m H →
      ((Itt K a).stop i H ∧ Qd H) ∨ ((Itt K a).go i H ∧ ∃ Nx : Hp → Prop, (∀ H', Nx H' → ∃ m', m' < m ∧ W (i + 1) m' H') ∧ ∀ x H', (Itt K a).yld i H x H' → g x (wipe σ vs) H' fun σ2 H2 => wipe σ2 vs = wipe σ vs ∧ tt σ2 H2 fun b H3 =>
        if b = true then wi1 σ2 H3 fun J1 H4 => In2 J1 g1 tt1 te vs1 σ2 D Nx H4 else Nx H3) := by
  refine ⟨fun i m Hi => m = xs.length - i ∧ i ≤ xs.length ∧ Pv i Hi, ⟨_, rfl, Nat.zero_le _, h0⟩, ?_⟩
  rintro i m Hi ⟨em, hi, p⟩
  have q := hl i Hi hi p
  by_cases l : i < xs.length
  · refine Or.inr ⟨⟨xs, xs[i], q, by simp [l]⟩, Pv (i + 1), fun H' p' => ⟨_, by omega, rfl, l, p'⟩, ?_⟩
    rintro x H' ⟨eh, hx⟩
    rw [eh]
    exact hs i x Hi (hx xs q) p
  · obtain rfl : i = xs.length := by omega
    exact Or.inl ⟨⟨xs, q, Nat.le_refl _⟩, hd Hi p⟩
end
theorem entD_inv {H : Hp} {v : V} {e : Ent} (h : Td H v (entD e)) : ∃ t tr rs, v = .ref t ∧ H t = some (.tup [.str e.1, .bl e.2.1, .ref tr]) ∧ H tr = some (.tup rs) ∧ TdAll H rs (e.2.2.map refD) := by
  obtain ⟨t, xs, rfl, ht, hx⟩ := h.tup_inv
  cases hx with
  | cons h1 hx =>
    cases hx with
    | cons h2 hx =>
      cases hx with
      | cons h3 hx =>
        cases hx
        obtain ⟨tr, rs, rfl, hr, hrs⟩ := h3.tup_inv
        rw [h1.str_inv, h2.bl_inv] at ht
        exact ⟨t, tr, rs, rfl, ht, hr, hrs⟩
theorem refD_inv {H : Hp} {v : V} {r : Ref} (h : Td H v (refD r)) : ∃ t, v = .ref t ∧ H t = some (.tup [.str r.1, .str r.2]) := by
  obtain ⟨t, xs, rfl, ht, hx⟩ := h.tup_inv
  cases hx with
  | cons h1 hx =>
    cases hx with
    | cons h2 hx =>
      cases hx
      rw [h1.str_inv, h2.str_inv] at ht
      exact ⟨t, rfl, ht⟩
theorem TdAll.getM {α : Type} {H : Hp} {vs : List V} {l : List α} {f : α → PyData} {i : Nat} {v : V} (h : TdAll H vs (l.map f)) (e : vs[i]? = some v) : ∃ x, l[i]? = some x ∧ Td H v (f x) := by
  obtain ⟨d, hd, ht⟩ := h.get e
  rw [List.getElem?_map] at hd
  obtain ⟨x, hx, rfl⟩ := Option.map_eq_some_iff.mp hd
  exact ⟨x, hx, ht⟩
theorem TdAll.getM' {α : Type} {H : Hp} {vs : List V} {l : List α} {f : α → PyData} {i : Nat} {x : α} (h : TdAll H vs (l.map f)) (e : l[i]? = some x) : ∃ v, vs[i]? = some v ∧ Td H v (f x) := by
  refine h.get' (i := i) ?_
  rw [List.getElem?_map, e]
  rfl
theorem all_true (n : Nat) : (List.replicate n true).all id = true := by
  induction n with
  | zero => rfl
  | succ n ih =>
    rw [List.replicate_succ, List.all_cons, ih]
    rfl
theorem rep_bl (n : Nat) : List.replicate n (V.bl true) = (List.replicate n true).map V.bl := by rw [List.map_replicate]
theorem rep_snoc {α : Type} (n : Nat) (x : α) : List.replicate n x ++ [x] = List.replicate (n + 1) x := (List.replicate_succ' (n := n) (a := x)).symm
end My
namespace My
open PySem L2
def sFlds (tv : V) (de : Addr) : List (Str × V) := putF "_entries" (.ref de) (putF "_tables" tv [])
theorem s_ne1 : ¬ (("_entries" : Str) = "_tables") := by decide +kernel
theorem s_ne2 : ¬ (("_tables" : Str) = "_entries") := by decide +kernel
theorem sFlds_t (tv : V) (de : Addr) : (sFlds tv de).lookup ("_tables" : Str) = some tv := by
  unfold sFlds
  rw [lookup_putF, if_neg s_ne2, lookup_putF, if_pos rfl]
theorem sFlds_e (tv : V) (de : Addr) : (sFlds tv de).lookup ("_entries" : Str) = some (.ref de) := by
  unfold sFlds
  rw [lookup_putF, if_pos rfl]
theorem sFlds_no (tv : V) (de : Addr) {m : Str} (h1 : ¬ m = "_entries") (h2 : ¬ m = "_tables") : (sFlds tv de).lookup m = none := by
  unfold sFlds
  rw [lookup_putF, if_neg h1, lookup_putF, if_neg h2]
  rfl
structure EntsAt (H : Hp) (kvs : List (Key × V)) (pl : Plan) : Prop where
  keys : kvs.map (·.1) = pl.map fun e => (Sum.inr e.1 : Key)
  vals : TdAll H (kvs.map (·.2)) (pl.map entD)
structure SchAt (C : Addr) (H : Hp) (p : Addr) (pl : Plan) : Prop where
  good : Good pl
  ex : ∃ dx tv de kvs, H p = some (.ins C dx (sFlds tv de)) ∧ Td H tv (planD pl) ∧ H de = some (.dK kvs) ∧ EntsAt H kvs pl
theorem SchAt.fr {C p a : Addr} {H H' : Hp} {pl : Plan} {xs : List V} (S : SchAt C H p pl) (e : Fr1 a H H') (ha : H a = some (.lst xs)) : SchAt C H' p pl := by
  obtain ⟨dx, tv, de, kvs, h1, h2, h3, h4⟩ := S.ex
  have kt := e.kt ha
  exact ⟨S.good, dx, tv, de, kvs, e p _ (ne_of h1 ha (by intro z; cases z)) h1, h2.mono kt, e de _ (ne_of h3 ha (by intro z; cases z)) h3, h4.keys, h4.vals.mono kt⟩
theorem SchAt.same {C p : Addr} {H H' : Hp} {pl : Plan} (S : SchAt C H p pl) (e : Same H H') : SchAt C H' p pl := by
  obtain ⟨dx, tv, de, kvs, h1, h2, h3, h4⟩ := S.ex
  exact ⟨S.good, dx, tv, de, kvs, e p _ h1, h2.kt_same e, e de _ h3, h4.keys, h4.vals.mono (KT.of e)⟩
theorem SchAt.ins {C p : Addr} {H : Hp} {pl : Plan} (S : SchAt C H p pl) : ∃ dx fs, H p = some (.ins C dx fs) := by
  obtain ⟨dx, tv, de, kvs, h1, _⟩ := S.ex
  exact ⟨_, _, h1⟩
theorem valV_mem {kvs : List (Key × V)} {pl : Plan} (hk : kvs.map (·.1) = pl.map fun e => (Sum.inr e.1 : Key)) (nd : (pl.map (·.1)).Nodup) : ∀ {H : Hp}, TdAll H (kvs.map (·.2)) (pl.map entD) → ∀ e ∈ pl, ∃ v, valV kvs (Sum.inr e.1) = some v ∧ Td H v (entD e) := by
  induction kvs generalizing pl with
  | nil =>
    intro H _ e he
    cases pl with
    | nil => cases he
    | cons _ _ => simp at hk
  | cons q r ih =>
    intro H ht e he
    cases pl with
    | nil => cases he
    | cons e0 pr =>
      rw [List.map_cons, List.map_cons] at hk ht
      have hk1 : q.1 = Sum.inr e0.1 := (List.cons.inj hk).1
      have hk2 := (List.cons.inj hk).2
      rw [List.map_cons] at nd
      obtain ⟨nd1, nd2⟩ := List.nodup_cons.mp nd
      cases ht with
      | cons h1 h2 =>
        by_cases c : e.1 = e0.1
        · have ee : e = e0 := by
            rcases List.mem_cons.mp he with h | h
            · exact h
            · exact absurd (List.mem_map.mpr ⟨e, h, c⟩) nd1
          subst ee
          refine ⟨q.2, ?_, h1⟩
          unfold valV
          simp [hk1]
        · rcases List.mem_cons.mp he with h | h
          · exact absurd (by rw [h]) c
          · obtain ⟨v, hv, hT⟩ := ih hk2 nd2 h2 e h
            refine ⟨v, ?_, hT⟩
            rw [← hv]
            unfold valV
            have : ¬ q.1 = Sum.inr e.1 := by
              rw [hk1]
              intro z
              exact c (Sum.inr.inj z).symm
            simp [this]
theorem valV_no {kvs : List (Key × V)} {pl : Plan} (hk : kvs.map (·.1) = pl.map fun e => (Sum.inr e.1 : Key)) {w : Str} (h : w ∉ pl.map (·.1)) : valV kvs (Sum.inr w) = none := by
  cases c : valV kvs (Sum.inr w : Key) with
  | none => rfl
  | some v =>
    have := valV_in c
    rw [hk] at this
    obtain ⟨e, he, ee⟩ := List.mem_map.mp this
    exact absurd (List.mem_map.mpr ⟨e, he, Sum.inr.inj ee⟩) h
theorem EntsAt.get {H : Hp} {kvs : List (Key × V)} {pl : Plan} (h : EntsAt H kvs pl) (g : Good pl) {e : Ent} (he : e ∈ pl) : ∃ v, valV kvs (Sum.inr e.1) = some v ∧ Td H v (entD e) := valV_mem h.keys g.nd h.vals e he
end My
namespace My
open PySem PySem.Spec PyProof.Rows L2
section
variable {X : Cx} {k : Nat} {C : Addr} {sp : Sp}
def rInOwn (C : Addr) (sp : Sp) : R2 := fun x y H Q => ∃ a dx fs, y = .ref a ∧ H a = some (.ins C dx fs) ∧ sp [.ref a, x] H (fun v H2 => ∃ b, v = .bl b ∧ Q (.bl b) H2) E0
theorem op_inOwn (G : MethOk X.prog X.w X.K X.mg X.base k C "__contains__" sp) (hr : Room k X.A) : OpR X (compareOp .In) (rInOwn C sp) := by
  obtain ⟨f, fd, ps, F, hm, hb, c⟩ := G.ex
  intro pins s σ H x y v u Q I rx ry h
  obtain ⟨a, dx, fs, rfl, ha, h⟩ := h
  obtain rfl : u = Value.ref a := ry
  obtain ⟨m, fr⟩ := I.fr
  obtain ⟨mA, O, _⟩ := ins_get I.hok ha
  obtain ⟨od, J, _⟩ := O.look
  refine PySem.W.in_K fr I.ok.mod.kin J hm.at_ hm.fn (thn (run_fn (us := [.ref a, v]) (vs := [.ref a, x]) F hr hb .nil pass0 I (.cons rfl (.cons rx .nil)) h) fun r s1 ⟨z, H1, I1, r1, b, ez, q⟩ => ?_)
  subst ez
  cases r1
  exact wpAny_truthy_bool ⟨.bl b, H1, I1, rfl, q⟩
def rSetOwn (C : Addr) (sp : Sp) : V → V → V → Hp → (Hp → Prop) → Prop := fun o i v H Q => ∃ a dx fs, o = .ref a ∧ H a = some (.ins C dx fs) ∧ sp [.ref a, i, v] H (fun _ H2 => Q H2) E0
theorem set_own (G : MethOk X.prog X.w X.K X.mg X.base k C "__setitem__" sp) (hr : Room k X.A) (hq : PySem.W.noSeq X.K C = true) : PSet X (rSetOwn C sp) := by
  obtain ⟨f, fd, ps, F, hm, hb, c⟩ := G.ex
  intro pins s σ H o i v ov iv u Q I ro ri rv h
  obtain ⟨a, dx, fs, rfl, ha, h⟩ := h
  obtain rfl : ov = Value.ref a := ro
  obtain ⟨m, fr⟩ := I.fr
  obtain ⟨mA, O, _⟩ := ins_get I.hok ha
  obtain ⟨od, J, _⟩ := O.look
  exact PySem.W.ksp_setItem fr I.ok.mod.kin J hq hm.at_ hm.fn (thn (run_fn (us := [.ref a, iv, u]) (vs := [.ref a, i, v]) F hr hb .nil pass0 I (.cons rfl (.cons ri (.cons rv .nil))) h) fun r s1 ⟨z, H1, I1, r1, q⟩ => ⟨H1, I1, q⟩)
def rGetOwn (C : Addr) (sp : Sp) : R2 := fun x y H Q => ∃ a dx fs, x = .ref a ∧ H a = some (.ins C dx fs) ∧ sp [.ref a, y] H Q E0
theorem kDict {K : PySem.W.Frag} (h : X.K = K := by rfl) : CallR X (.type "dict") (fun xs H Q => ∃ (a : Addr) (kvs : List (Key × V)), xs = [.ref a] ∧ Rd H a (.dK kvs) ∧ ∀ p, H p = none → Q (.ref p) (upd H p (.dK kvs))) := by
  subst h
  exact call_dictD
end
def TupX (a : Addr) (ws : List Str) : HO := .ext fun h => ws.length ≤ sizeLine ∧ ∃ its : List Value, Vals (ws.map V.str) its ∧ h.get? a = some ({ cls := .type "tuple", data := .seq its.toArray } : Obj)
section
variable {X : Cx} {pins : List (Addr × Obj)} {σ : L2.St} {H : Hp} {s : Shared}
theorem tupX_at {a : Addr} {ws : List Str} (I : Inv X pins σ H s) (h : H a = some (TupX a ws)) : ws.length ≤ sizeLine ∧ ∃ its : List Value, Vals (ws.map V.str) its ∧ s.heap.get? a = some ({ cls := .type "tuple", data := .seq its.toArray } : Obj) := (I.hok a _ h).1
def rTupX (K : PySem.W.Frag) : List V → Hp → VK → Prop := fun xs H Q => ∃ (p : Addr) (ws : List Str), xs = [.ref p] ∧ SqL K H p (ws.map V.str) ∧ ∀ l, H l = none → Q (.ref l) (upd H l (TupX l ws))
theorem kTupX {K : PySem.W.Frag} (hK : X.K = K := by rfl) : CallR X (.type "tuple") (rTupX K) := by
  subst hK
  intro pins s0 σ H0 xs us Q I0 r0 h0
  obtain ⟨p, ws, rfl, hq, q⟩ := h0
  obtain ⟨u, rfl, rx⟩ := vals1 r0
  cases rx
  obtain ⟨its, ri, pl, hz⟩ := I0.list hq
  have hn := ri.length
  rw [List.length_map] at hn hz
  refine call_tuple_list pl.isList (fun h9 kp => ?_) (by simp only [List.size_toArray]; omega)
  have I1 : Inv X pins σ H0 { s0 with heap := h9 } := I0.kept (t' := s0.toks) kp
  have hget : (h9.push ({ cls := .type "tuple", data := .seq its.toArray } : Obj)).get? h9.objs.size = some ({ cls := .type "tuple", data := .seq its.toArray } : Obj) := Heap.get?_push_size _ rfl
  have I2 : Inv X pins σ (upd H0 h9.objs.size (TupX h9.objs.size ws)) { s0 with heap := h9.push { cls := .type "tuple", data := .seq its.toArray } } :=
    I1.laid (t' := s0.toks) (fun b o e => Heap.get?_push_of_some _ e) (Nat.le_refl _) ⟨⟨hz, its, ri, hget⟩, ⟨_, hget⟩, fun h1 h2 ⟨z1, z2, z3, z4⟩ k => ⟨z1, z2, z3, k _ z4⟩⟩
  exact ⟨.ref h9.objs.size, _, I2, rfl, q _ (I1.hok.fresh (Nat.le_refl _))⟩
theorem call_lenX : CallR X (.builtin "len") (fun xs H Q => ∃ (p : Addr) (ws : List Str), xs = [.ref p] ∧ H p = some (TupX p ws) ∧ Q (.int ws.length) H) := by
  intro pins s0 σ H0 xs us Q I0 r0 h0
  obtain ⟨p, ws, rfl, hq, q⟩ := h0
  obtain ⟨u, rfl, rx⟩ := vals1 r0
  cases rx
  have l63 := line63
  obtain ⟨hz, its, ri, hg⟩ := tupX_at I0 hq
  have hn := ri.length
  rw [List.length_map] at hn
  exact len_tuple ⟨_, hg, rfl, _, rfl⟩ (by simp only [List.size_toArray]; omega) ⟨.int ws.length, H0, I0.tok _, ⟨s0.toks + 1, by rw [List.size_toArray, hn]⟩, q⟩
def tIdxX (to : TE) (t : TA) : TE := fun σ H Q => to σ H fun x H1 => ∃ (p : Addr) (ws : List Str), x = .ref p ∧ H1 p = some (TupX p ws) ∧ t σ H1 fun vs H2 => H2 p = some (TupX p ws) ∧ ∃ (z : Str) (j : Nat), vs = [.str z] ∧ ws[j]? = some z ∧ (∀ m, m < j → ws[m]? ≠ some z) ∧ Q (.int (j : Nat)) H2
theorem pe_idxX {o e : Expr} {to : TE} {t : TA} {apos cpos : Pos} (ho : PE X o to) (ha : PA X [e] t) (hbase : attributeBase o "index" X.env (eval o X.env) = eval o X.env := by rfl)
    (hfew : ((backTo cpos (starEach [e] X.env)).all (fun x => !x.1) && (backToKw cpos (keywordEach [] X.env)).all (fun x => x.1.isSome)
      && decide ([e].length + ([] : List Keyword).length + (if ([] : List Keyword).isEmpty then 0 else 1) < 30)) = true := by rfl)
    (hline : (apos.endLine == cpos.line) = true := by rfl) (hs : starEach [e] X.env = (false, eval e X.env) :: starEach [] X.env := by rfl) (hplain : (backTo cpos (starEach [] X.env)).any (·.1) = false := by rfl) :
    PE X (.Call (.Attribute o "index" apos) [e] [] cpos) (tIdxX to t) := by
  refine ⟨fun pins s0 σ H0 Q I0 h0 => ?_⟩
  refine wpAny_Call_method_late hbase hfew hline rfl (thn (ho.run pins s0 σ H0 _ I0 h0) fun v s1 ⟨x, H1, I1, r1, p, ws, ex, hX, q1⟩ => ?_)
  subst ex
  cases r1
  obtain ⟨hz, its, ri, hg⟩ := tupX_at I1 hX
  refine ⟨"tuple", "tuple.index", PySem.F.plainAttrs_tuple, PySem.F.slot_tuple_index, PySem.F.type_tuple_index, ⟨_, hg, rfl⟩, fun a ea => ?_, ?_⟩
  · cases ea
    exact ⟨_, hg, rfl⟩
  have hA := ha.run cpos pins s1 σ H1 _ I1 q1
  rw [hs] at hA ⊢
  refine Calls.callWith_builtin (by show (false || (backTo cpos (starEach [] X.env)).any (·.1)) = false; rw [hplain]; rfl) (Calls.evalArgs_plain ?_)
  refine thn hA fun us s2 ⟨vs, H2, I2, r2, hX2, z, j, ev, hj, hno, q⟩ => ?_
  subst ev
  obtain ⟨u, rfl, tk, rfl⟩ := vals1 r2
  obtain ⟨_, its2, rj, hg2⟩ := tupX_at I2 hX2
  have hl : its2.toArray.size = ws.length := by rw [List.size_toArray, ← rj.length, List.length_map]
  have hjs : j < its2.toArray.size := by rw [hl]; exact (List.getElem?_eq_some_iff.mp hj).1
  have each : ∀ (m : Nat) (hm : m < its2.toArray.size), ∃ y t', ws[m]? = some y ∧ its2.toArray[m] = Value.str y t' := fun m hm => by
    have hmw : m < ws.length := by rw [← hl]; exact hm
    obtain ⟨w, hw, t', ew⟩ := rj.get (i := m) (x := .str ws[m]) (by simp [hmw])
    refine ⟨ws[m], t', List.getElem?_eq_getElem hmw, ?_⟩
    rw [← ew, ← (List.getElem?_eq_some_iff.mp hw).2]
    simp
  refine call_meets PySem.F.slot_tuple_index ⟨_, hg2, rfl⟩ PySem.F.entry_tuple_index (PySem.F.args_tuple_index_2 _ _) (TI.tuple_indexAt p its2.toArray 0 none #[] (.str z tk) (eqU (.str z)) j hjs ?_ ?_)
    ⟨hg2, fun w hw => mem_eqAt (x := .str z) ⟨tk, rfl⟩ rfl rj (flat_strs ws) w (by simpa using hw), ⟨.int (j : Nat), H2, I2.tok _, ⟨_, rfl⟩, q⟩⟩
  · obtain ⟨y, t', h1, h2⟩ := each j hjs
    rw [hj] at h1
    cases h1
    rw [h2]
    exact beq_self_eq_true z
  · intro m hm hmj
    obtain ⟨y, t', h1, h2⟩ := each m hm
    rw [h2]
    exact beq_eq_false_iff_ne.mpr fun e => hno m hmj (e ▸ h1)
end
def FrF (F : List Addr) (H H' : Hp) : Prop := ∀ c o, c ∉ F → H c = some o → H' c = some o
theorem FrF.refl (F : List Addr) (H : Hp) : FrF F H H := fun _ _ _ h => h
theorem FrF.trans {F : List Addr} {H H1 H2 : Hp} (e : FrF F H H1) (f : FrF F H1 H2) : FrF F H H2 := fun c o n h => f c o n (e c o n h)
theorem FrF.of {F : List Addr} {H H' : Hp} (e : Same H H') : FrF F H H' := fun c o _ h => e c o h
theorem FrF.same {F : List Addr} {H H1 H2 : Hp} (e : Same H H1) (f : FrF F H1 H2) (n : ∀ c ∈ F, H c = none) : Same H H2 := fun c o h => f c o (fun m => by
  rw [n c m] at h
  cases h) (e c o h)
theorem FrF.at {F : List Addr} {H H' : Hp} {a : Addr} {o : HO} (e : FrF F H H') (m : a ∈ F) : FrF F H (upd H' a o) := fun c u n h => by
  rw [upd_ne (fun z => n (by rw [z]; exact m))]
  exact e c u n h
structure Kept (F : List Addr) (H H' : Hp) : Prop where
  ob : ∀ c ∈ F, ∀ o, H c = some o → H' c = some o
  kt : KT H H'
theorem Kept.of {F : List Addr} {H H' : Hp} (e : Same H H') : Kept F H H' := ⟨fun c _ o h => e c o h, KT.of e⟩
theorem FrF.kept {F G : List Addr} {H H' : Hp} (e : FrF F H H') (d : ∀ c ∈ G, c ∉ F) (n : ∀ c ∈ F, ∀ xs, H c ≠ some (.tup xs)) : Kept G H H' :=
  ⟨fun c m o h => e c o (d c m) h, fun c xs h => e c _ (fun m => n c m xs h) h⟩
theorem Same.unlock {d : Addr} {od : Obj} {u : HO} {H H' : Hp} (e : Same (L2.upd H d (.frz od u)) H') (h : H d = some u) : Same H (L2.upd H' d u) := fun c o hc => by
  by_cases z : c = d
  · rw [z, upd_same]
    rw [z, h] at hc
    exact hc
  · rw [upd_ne z]
    exact e c o (by rw [upd_ne z]; exact hc)
theorem Same.locked {d : Addr} {od : Obj} {kvs : List (Key × V)} {H : Hp} (h : H d = some (.dK kvs)) : KT H (L2.upd H d (.frz od (.dK kvs))) := fun c xs hc => by
  rw [upd_ne (ne_of hc h (by intro z; cases z))]
  exact hc
section
variable {g : TG} {tt : TT} {te tk tv : TE} {tb : TS} {vs : List Nat} {σ : L2.St} {H1 : Hp} {D d : Addr} {Qd : Hp → Prop} {o : Obj} {kvs : List (Key × V)} {Dn : Ends}
theorem lc_keys (Pv : Nat → Hp → Prop) (h0 : Pv 0 (upd H1 D (.lst []))) (hl : ∀ i Hi, i ≤ kvs.length → Pv i Hi → Hi d = some (.frz o (.dK kvs)))
    (hs : ∀ i k v Hi, kvs[i]? = some (k, v) → Pv i Hi → g (kV k) (wipe σ vs) Hi fun σ2 H2 => wipe σ2 vs = wipe σ vs ∧ tt σ2 H2 fun b H3 =>
      if b = true then te σ2 H3 fun y H4 => ∃ acc, H4 D = some (.lst acc) ∧ acc.length < sizeLine ∧ Pv (i + 1) (upd H4 D (.lst (acc ++ [y]))) else Pv (i + 1) H3)
    (hd : ∀ Hi, Pv kvs.length Hi → Qd Hi) :
    ∃ W : Nat → Nat → Hp → Prop, (∃ m, W 0 m (upd H1 D (.lst []))) ∧ ∀ i m Hi, W i m Hi →
      ((Itk d o kvs).stop i Hi ∧ Qd Hi) ∨ ((Itk d o kvs).go i Hi ∧ ∃ Nx : Hp → Prop, (∀ H', Nx H' → ∃ m', m' < m ∧ W (i + 1) m' H') ∧ ∀ v H', (Itk d o kvs).yld i Hi v H' → g v (wipe σ vs) H' fun σ2 H2 => wipe σ2 vs = wipe σ vs ∧ tt σ2 H2 fun b H3 =>
        if b = true then te σ2 H3 fun y H4 => ∃ acc, H4 D = some (.lst acc) ∧ acc.length < sizeLine ∧ Nx (upd H4 D (.lst (acc ++ [y]))) else Nx H3) := by
  refine ⟨fun i m Hi => m = kvs.length - i ∧ i ≤ kvs.length ∧ Pv i Hi, ⟨_, rfl, Nat.zero_le _, h0⟩, ?_⟩
  rintro i m Hi ⟨em, hi, p⟩
  have q := hl i Hi hi p
  by_cases l : i < kvs.length
  · refine Or.inr ⟨⟨q, l⟩, Pv (i + 1), fun H' p' => ⟨_, by omega, rfl, l, p'⟩, ?_⟩
    rintro x H' ⟨eh, k, v, hk, rfl⟩
    rw [eh]
    exact hs i k v Hi hk p
  · obtain rfl : i = kvs.length := by omega
    exact Or.inl ⟨⟨q, Nat.le_refl _⟩, hd Hi p⟩
theorem lc_vals (Pv : Nat → Hp → Prop) (h0 : Pv 0 (upd H1 D (.lst []))) (hl : ∀ i Hi, i ≤ kvs.length → Pv i Hi → Hi d = some (.frz o (.dK kvs)))
    (hs : ∀ i k v Hi, kvs[i]? = some (k, v) → Pv i Hi → g v (wipe σ vs) Hi fun σ2 H2 => wipe σ2 vs = wipe σ vs ∧ tt σ2 H2 fun b H3 =>
      if b = true then te σ2 H3 fun y H4 => ∃ acc, H4 D = some (.lst acc) ∧ acc.length < sizeLine ∧ Pv (i + 1) (upd H4 D (.lst (acc ++ [y]))) else Pv (i + 1) H3)
    (hd : ∀ Hi, Pv kvs.length Hi → Qd Hi) :
    ∃ W : Nat → Nat → Hp → Prop, (∃ m, W 0 m (upd H1 D (.lst []))) ∧ ∀ i m Hi, W i m Hi →
      ((Itd d o kvs).stop i Hi ∧ Qd Hi) ∨ ((Itd d o kvs).go i Hi ∧ ∃ Nx : Hp → Prop, (∀ H', Nx H' → ∃ m', m' < m ∧ W (i + 1) m' H') ∧ ∀ v H', (Itd d o kvs).yld i Hi v H' → g v (wipe σ vs) H' fun σ2 H2 => wipe σ2 vs = wipe σ vs ∧ tt σ2 H2 fun b H3 =>
        if b = true then te σ2 H3 fun y H4 => ∃ acc, H4 D = some (.lst acc) ∧ acc.length < sizeLine ∧ Nx (upd H4 D (.lst (acc ++ [y]))) else Nx H3) := by
  refine ⟨fun i m Hi => m = kvs.length - i ∧ i ≤ kvs.length ∧ Pv i Hi, ⟨_, rfl, Nat.zero_le _, h0⟩, ?_⟩
  rintro i m Hi ⟨em, hi, p⟩
  have q := hl i Hi hi p
  by_cases l : i < kvs.length
  · refine Or.inr ⟨⟨q, l⟩, Pv (i + 1), fun H' p' => ⟨_, by omega, rfl, l, p'⟩, ?_⟩
    rintro x H' ⟨eh, k, hk⟩
    rw [eh]
    exact hs i k x Hi hk p
  · obtain rfl : i = kvs.length := by omega
    exact Or.inl ⟨⟨q, Nat.le_refl _⟩, hd Hi p⟩
theorem dc_keys (Pv : Nat → Hp → Prop) (h0 : Pv 0 (upd H1 D (.dK []))) (hl : ∀ i Hi, i ≤ kvs.length → Pv i Hi → Hi d = some (.frz o (.dK kvs)))
    (hs : ∀ i k v Hi, kvs[i]? = some (k, v) → Pv i Hi → g (kV k) (wipe σ vs) Hi fun σ2 H2 => wipe σ2 vs = wipe σ vs ∧ tt σ2 H2 fun b H3 =>
      if b = true then tk σ2 H3 fun y H4 => tv σ2 H4 fun z H5 => ∃ kvs k, y = kV k ∧ H5 D = some (.dK kvs) ∧ kvs.length < sizeLine ∧ Pv (i + 1) (upd H5 D (.dK (putK kvs k z))) else Pv (i + 1) H3)
    (hd : ∀ Hi, Pv kvs.length Hi → Qd Hi) :
    ∃ W : Nat → Nat → Hp → Prop, (∃ m, W 0 m (upd H1 D (.dK []))) ∧ ∀ i m Hi, W i m Hi →
      ((Itk d o kvs).stop i Hi ∧ Qd Hi) ∨ ((Itk d o kvs).go i Hi ∧ ∃ Nx : Hp → Prop, (∀ H', Nx H' → ∃ m', m' < m ∧ W (i + 1) m' H') ∧ ∀ v H', (Itk d o kvs).yld i Hi v H' → g v (wipe σ vs) H' fun σ2 H2 => wipe σ2 vs = wipe σ vs ∧ tt σ2 H2 fun b H3 =>
        if b = true then tk σ2 H3 fun y H4 => tv σ2 H4 fun z H5 => ∃ kvs k, y = kV k ∧ H5 D = some (.dK kvs) ∧ kvs.length < sizeLine ∧ Nx (upd H5 D (.dK (putK kvs k z))) else Nx H3) := by
  refine ⟨fun i m Hi => m = kvs.length - i ∧ i ≤ kvs.length ∧ Pv i Hi, ⟨_, rfl, Nat.zero_le _, h0⟩, ?_⟩
  rintro i m Hi ⟨em, hi, p⟩
  have q := hl i Hi hi p
  by_cases l : i < kvs.length
  · refine Or.inr ⟨⟨q, l⟩, Pv (i + 1), fun H' p' => ⟨_, by omega, rfl, l, p'⟩, ?_⟩
    rintro x H' ⟨eh, k, v, hk, rfl⟩
    rw [eh]
    exact hs i k v Hi hk p
  · obtain rfl : i = kvs.length := by omega
    exact Or.inl ⟨⟨q, Nat.le_refl _⟩, hd Hi p⟩
theorem for_vals (Pv : Nat → L2.St → Hp → Prop) (h0 : Pv 0 σ H1) (hl : ∀ i σ' Hi, i ≤ kvs.length → Pv i σ' Hi → Hi d = some (.frz o (.dK kvs)))
    (hs : ∀ i k v σ' Hi, kvs[i]? = some (k, v) → Pv i σ' Hi → g v σ' Hi fun σ2 H2 => tb { Dn with nx := Pv (i + 1), ct := Pv (i + 1), bk := Dn.nx } σ2 H2) (hd : ∀ σ' Hi, Pv kvs.length σ' Hi → Dn.nx σ' Hi) :
    ∃ W : Nat → Nat → L2.St → Hp → Prop, (∃ m, W 0 m σ H1) ∧ ∀ i m σ' Hi, W i m σ' Hi →
      ((Itd d o kvs).stop i Hi ∧ Dn.nx σ' Hi) ∨ ((Itd d o kvs).go i Hi ∧ ∃ N : L2.St → Hp → Prop, (∀ σ2 H', N σ2 H' → ∃ m', m' < m ∧ W (i + 1) m' σ2 H') ∧ ∀ x H', (Itd d o kvs).yld i Hi x H' → g x σ' H' fun σ2 H2 => tb { Dn with nx := N, ct := N, bk := Dn.nx } σ2 H2) := by
  refine ⟨fun i m σ' Hi => m = kvs.length - i ∧ i ≤ kvs.length ∧ Pv i σ' Hi, ⟨_, rfl, Nat.zero_le _, h0⟩, ?_⟩
  rintro i m σ' Hi ⟨em, hi, p⟩
  have q := hl i σ' Hi hi p
  by_cases l : i < kvs.length
  · refine Or.inr ⟨⟨q, l⟩, Pv (i + 1), fun σ2 H' p' => ⟨_, by omega, rfl, l, p'⟩, ?_⟩
    rintro x H' ⟨eh, k, hk⟩
    rw [eh]
    exact hs i k x σ' Hi hk p
  · obtain rfl : i = kvs.length := by omega
    exact Or.inl ⟨⟨q, Nat.le_refl _⟩, hd σ' Hi p⟩
end
theorem valV_at {kvs : List (Key × V)} (nd : (kvs.map (·.1)).Nodup) {i : Nat} {k : Key} {v : V} (h : kvs[i]? = some (k, v)) : valV kvs k = some v := by
  induction kvs generalizing i with
  | nil => simp at h
  | cons q r ih =>
    rw [List.map_cons] at nd
    obtain ⟨n1, n2⟩ := List.nodup_cons.mp nd
    cases i with
    | zero =>
      have h : q = (k, v) := Option.some.inj h
      subst h
      exact valV_pos rfl
    | succ i =>
      have hm : (k, v) ∈ r := List.mem_of_getElem? (i := i) h
      have : ¬ q.1 = k := fun z => n1 (by rw [z]; exact List.mem_map.mpr ⟨_, hm, rfl⟩)
      rw [valV_neg this]
      exact ih n2 (i := i) h
end My
namespace My
open PySem L2
structure SchE (C : Addr) (H : Hp) (p : Addr) (pl : Plan) (de : Addr) : Prop where
  good : Good pl
  ex : ∃ dx tv kvs, H p = some (.ins C dx (sFlds tv de)) ∧ Td H tv (planD pl) ∧ H de = some (.dK kvs) ∧ EntsAt H kvs pl
theorem SchE.at {C p de : Addr} {H : Hp} {pl : Plan} (S : SchE C H p pl de) : SchAt C H p pl := by
  obtain ⟨dx, tv, kvs, h1, h2, h3, h4⟩ := S.ex
  exact ⟨S.good, dx, tv, de, kvs, h1, h2, h3, h4⟩
theorem SchE.keep {C p de : Addr} {H H' : Hp} {pl : Plan} (S : SchE C H p pl de) (kt : KT H H') (k1 : ∀ o, H p = some o → H' p = some o) (k2 : ∀ o, H de = some o → H' de = some o) : SchE C H' p pl de := by
  obtain ⟨dx, tv, kvs, h1, h2, h3, h4⟩ := S.ex
  exact ⟨S.good, dx, tv, kvs, k1 _ h1, h2.mono kt, k2 _ h3, h4.keys, h4.vals.mono kt⟩
def cellD : Option Int → PyData
  | none => .none
  | some i => .int i
def rowD (lab : Int) (cs : List (Option Int)) : PyData := .tuple [.int lab, .tuple (cs.map cellD)]
structure GoodRow (w : Nat) (lab : Int) (cs : List (Option Int)) : Prop where
  lo : 0 ≤ lab
  hi : lab < 1000000000000000000000000000000
  len : cs.length = w
  key : ∀ x, some x ∈ cs → 1 ≤ x
structure RowsAt (H : Hp) (kvs : List (Key × V)) (w : Nat) : Prop where
  nd : (kvs.map (·.1)).Nodup
  row : ∀ q ∈ kvs, ∃ (k lab : Int) (cs : List (Option Int)), q.1 = Sum.inl k ∧ 1 ≤ k ∧ Td H q.2 (rowD lab cs) ∧ GoodRow w lab cs
theorem RowsAt.mono {H H' : Hp} {kvs : List (Key × V)} {w : Nat} (r : RowsAt H kvs w) (kt : KT H H') : RowsAt H' kvs w := ⟨r.nd, fun q hq => by
  obtain ⟨k, lab, cs, h1, h2, h3, h4⟩ := r.row q hq
  exact ⟨k, lab, cs, h1, h2, h3.mono kt, h4⟩⟩
theorem RowsAt.nil (H : Hp) (w : Nat) : RowsAt H [] w := ⟨List.nodup_nil, by simp⟩
theorem rowD_inv {H : Hp} {v : V} {lab : Int} {cs : List (Option Int)} (h : Td H v (rowD lab cs)) : ∃ t tc xs, v = .ref t ∧ H t = some (.tup [.int lab, .ref tc]) ∧ H tc = some (.tup xs) ∧ TdAll H xs (cs.map cellD) := by
  obtain ⟨t, xs, rfl, ht, hx⟩ := h.tup_inv
  cases hx with
  | cons h1 hx =>
    cases hx with
    | cons h2 hx =>
      cases hx
      obtain ⟨tc, ys, rfl, hc, hy⟩ := h2.tup_inv
      rw [h1.int_inv] at ht
      exact ⟨t, tc, ys, rfl, ht, hc, hy⟩
def cellV : Option Int → V
  | none => .non
  | some i => .int i
theorem cellD_inv {H : Hp} {v : V} {c : Option Int} (h : Td H v (cellD c)) : v = cellV c := by
  cases c with
  | none =>
    cases h
    rfl
  | some i =>
    cases h
    rfl
theorem cellD_of {H : Hp} (c : Option Int) : Td H (cellV c) (cellD c) := by
  cases c with
  | none => exact .non
  | some i => exact .int i
def dFlds (sp dr : Addr) : List (Str × V) := putF "_rows" (.ref dr) (putF "_schema" (.ref sp) [])
theorem d_ne1 : ¬ (("_rows" : Str) = "_schema") := by decide +kernel
theorem d_ne2 : ¬ (("_schema" : Str) = "_rows") := by decide +kernel
theorem dFlds_s (sp dr : Addr) : (dFlds sp dr).lookup ("_schema" : Str) = some (.ref sp) := by
  unfold dFlds
  rw [lookup_putF, if_neg d_ne2, lookup_putF, if_pos rfl]
theorem dFlds_r (sp dr : Addr) : (dFlds sp dr).lookup ("_rows" : Str) = some (.ref dr) := by
  unfold dFlds
  rw [lookup_putF, if_pos rfl]
theorem dFlds_no (sp dr : Addr) {m : Str} (h1 : ¬ m = "_rows") (h2 : ¬ m = "_schema") : (dFlds sp dr).lookup m = none := by
  unfold dFlds
  rw [lookup_putF, if_neg h1, lookup_putF, if_neg h2]
  rfl
theorem dFlds_eq (sp dr : Addr) : dFlds sp dr = ([("_schema", V.ref sp), ("_rows", V.ref dr)] : List (Str × V)) := by
  show (if ("_schema" : Str) = "_rows" then [(("_schema" : Str), V.ref dr)] else (("_schema" : Str), V.ref sp) :: putF "_rows" (V.ref dr) []) = _
  rw [if_neg d_ne2]
  rfl
theorem dFlds_put (sp dr dr' : Addr) : putF "_rows" (.ref dr') (dFlds sp dr) = dFlds sp dr' := by
  rw [dFlds_eq, dFlds_eq]
  show (if ("_schema" : Str) = "_rows" then _ else (("_schema" : Str), V.ref sp) :: (if ("_rows" : Str) = "_rows" then [(("_rows" : Str), V.ref dr')] else _)) = _
  rw [if_neg d_ne2, if_pos rfl]
def rowsK (pl : Plan) (ds : List Addr) : List (Key × V) := (pl.map fun e => (Sum.inr e.1 : Key)).zip (ds.map V.ref)
theorem rowsK_keys {pl : Plan} {ds : List Addr} (h : ds.length = pl.length) : (rowsK pl ds).map (·.1) = pl.map fun e => (Sum.inr e.1 : Key) := by
  unfold rowsK
  rw [List.map_fst_zip]
  rw [List.length_map, List.length_map]
  omega
theorem rowsK_get : ∀ {pl : Plan} {ds : List Addr} {i : Nat} {e : Ent} {d : Addr}, (pl.map (·.1)).Nodup → pl[i]? = some e → ds[i]? = some d → valV (rowsK pl ds) (Sum.inr e.1) = some (.ref d)
  | [], _, _, _, _, _, h, _ => by simp at h
  | _ :: _, [], _, _, _, _, _, h => by simp at h
  | e0 :: pr, d0 :: dr, 0, e, d, _, h1, h2 => by
    have h1 : e0 = e := Option.some.inj h1
    have h2 : d0 = d := Option.some.inj h2
    subst h1
    subst h2
    exact valV_pos rfl
  | e0 :: pr, d0 :: dr, i + 1, e, d, nd, h1, h2 => by
    rw [List.map_cons] at nd
    obtain ⟨n1, n2⟩ := List.nodup_cons.mp nd
    have hm : e ∈ pr := List.mem_of_getElem? (i := i) h1
    have : ¬ (Sum.inr e0.1 : Key) = Sum.inr e.1 := fun z => n1 (by rw [Sum.inr.inj z]; exact List.mem_map.mpr ⟨e, hm, rfl⟩)
    show valV ((Sum.inr e0.1, V.ref d0) :: rowsK pr dr) _ = _
    rw [valV_neg this]
    exact rowsK_get (i := i) n2 h1 h2
structure DbAt (CD CS : Addr) (H : Hp) (p : Addr) (pl : Plan) (sp de dr : Addr) (ds : List Addr) (ct : List (List (Key × V))) : Prop where
  sch : SchE CS H sp pl de
  ob : ∃ dx, H p = some (.ins CD dx (dFlds sp dr))
  rws : H dr = some (.dK (rowsK pl ds))
  dl : ds.length = pl.length
  cl : ct.length = pl.length
  nd : ds.Nodup
  apart : dr ∉ ds ∧ de ∉ ds
  at_ : ∀ (i : Nat) (d : Addr) (kvs : List (Key × V)), ds[i]? = some d → ct[i]? = some kvs → H d = some (.dK kvs)
  ok : ∀ (i : Nat) (e : Ent) (kvs : List (Key × V)), pl[i]? = some e → ct[i]? = some kvs → RowsAt H kvs e.2.2.length
def foot (p sp de dr : Addr) (ds : List Addr) : List Addr := p :: sp :: de :: dr :: ds
theorem DbAt.keep {CD CS p sp de dr : Addr} {H H' : Hp} {pl : Plan} {ds : List Addr} {ct : List (List (Key × V))} (D : DbAt CD CS H p pl sp de dr ds ct) (k : Kept (foot p sp de dr ds) H H') : DbAt CD CS H' p pl sp de dr ds ct := by
  obtain ⟨dx, hp⟩ := D.ob
  have f : ∀ c, c ∈ foot p sp de dr ds → ∀ o, H c = some o → H' c = some o := k.ob
  refine ⟨D.sch.keep k.kt (f sp (by simp [foot])) (f de (by simp [foot])), ⟨dx, f p (by simp [foot]) _ hp⟩, f dr (by simp [foot]) _ D.rws, D.dl, D.cl, D.nd, D.apart, fun i d kvs h1 h2 => f d ?_ _ (D.at_ i d kvs h1 h2), fun i e kvs h1 h2 => (D.ok i e kvs h1 h2).mono k.kt⟩
  have := List.mem_of_getElem? h1
  simp [foot, this]
theorem DbAt.same {CD CS p sp de dr : Addr} {H H' : Hp} {pl : Plan} {ds : List Addr} {ct : List (List (Key × V))} (D : DbAt CD CS H p pl sp de dr ds ct) (e : Same H H') : DbAt CD CS H' p pl sp de dr ds ct := D.keep (Kept.of e)
end My
namespace My
open PySem L2
theorem rowsK_at : ∀ {pl : Plan} {ds : List Addr} {i : Nat} {k : Key} {v : V}, (rowsK pl ds)[i]? = some (k, v) → ∃ e d, pl[i]? = some e ∧ ds[i]? = some d ∧ k = Sum.inr e.1 ∧ v = .ref d
  | [], _, i, _, _, h => by
    unfold rowsK at h
    simp at h
  | _ :: _, [], i, _, _, h => by
    unfold rowsK at h
    simp at h
  | e0 :: pr, d0 :: dr, 0, k, v, h => by
    have h : ((Sum.inr e0.1 : Key), V.ref d0) = (k, v) := Option.some.inj h
    exact ⟨e0, d0, rfl, rfl, (congrArg Prod.fst h).symm, (congrArg Prod.snd h).symm⟩
  | e0 :: pr, d0 :: dr, i + 1, k, v, h => rowsK_at (i := i) (pl := pr) (ds := dr) h
theorem rowsK_len {pl : Plan} {ds : List Addr} (h : ds.length = pl.length) : (rowsK pl ds).length = pl.length := by
  unfold rowsK
  rw [List.length_zip, List.length_map, List.length_map]
  omega
theorem cells_td {H : Hp} : ∀ cs : List (Option Int), TdAll H (cs.map cellV) (cs.map cellD)
  | [] => .nil
  | c :: r => .cons (cellD_of c) (cells_td r)
structure HeldAt (H : Hp) (dh : Addr) (pl : Plan) (hs : List Addr) (ct : List (List (Key × V))) : Prop where
  rws : H dh = some (.dK (rowsK pl hs))
  dl : hs.length = pl.length
  cl : ct.length = pl.length
  nd : hs.Nodup
  apart : dh ∉ hs
  at_ : ∀ (i : Nat) (d : Addr) (kvs : List (Key × V)), hs[i]? = some d → ct[i]? = some kvs → H d = some (.dK kvs)
theorem HeldAt.keep {H H' : Hp} {dh : Addr} {pl : Plan} {hs : List Addr} {ct : List (List (Key × V))} (D : HeldAt H dh pl hs ct) (k : Kept (dh :: hs) H H') : HeldAt H' dh pl hs ct :=
  ⟨k.ob dh (by simp) _ D.rws, D.dl, D.cl, D.nd, D.apart, fun i d kvs h1 h2 => k.ob d (by simp [List.mem_of_getElem? h1]) _ (D.at_ i d kvs h1 h2)⟩
theorem HeldAt.same {H H' : Hp} {dh : Addr} {pl : Plan} {hs : List Addr} {ct : List (List (Key × V))} (D : HeldAt H dh pl hs ct) (e : Same H H') : HeldAt H' dh pl hs ct := D.keep (Kept.of e)
theorem ix_nd {ds : List Addr} (nd : ds.Nodup) {i j : Nat} {d : Addr} (h1 : ds[i]? = some d) (h2 : ds[j]? = some d) : i = j := by
  obtain ⟨l1, g1⟩ := List.getElem?_eq_some_iff.mp h1
  obtain ⟨l2, g2⟩ := List.getElem?_eq_some_iff.mp h2
  exact (List.getElem_inj nd).mp (g1.trans g2.symm)
theorem HeldAt.set {H : Hp} {dh d : Addr} {pl : Plan} {hs : List Addr} {ct : List (List (Key × V))} {i : Nat} {kvs : List (Key × V)} (D : HeldAt H dh pl hs ct) (hd : hs[i]? = some d) (kvs' : List (Key × V)) : HeldAt (upd H d (.dK kvs')) dh pl hs (ct.set i kvs') := by
  have n1 : dh ≠ d := fun z => D.apart (by rw [z]; exact List.mem_of_getElem? hd)
  refine ⟨by rw [upd_ne n1]; exact D.rws, D.dl, by rw [List.length_set]; exact D.cl, D.nd, D.apart, fun j d2 k2 h1 h2 => ?_⟩
  by_cases c : i = j
  · subst c
    rw [hd] at h1
    cases h1
    have hil : i < ct.length := by
      have := (List.getElem?_eq_some_iff.mp h2).1
      rw [List.length_set] at this
      exact this
    rw [List.getElem?_set_self hil] at h2
    cases h2
    exact upd_same
  · rw [List.getElem?_set_ne c] at h2
    have nd : d2 ≠ d := fun z => by
      subst z
      exact c (ix_nd D.nd hd h1)
    rw [upd_ne nd]
    exact D.at_ j d2 k2 h1 h2
structure Side where
  (p sp de dr : Addr)
  ds : List Addr
  dh : Addr
  hs : List Addr
def Side.fix (s : Side) : List Addr := [s.p, s.sp, s.de, s.dr, s.dh]
def Side.dicts (s : Side) : List Addr := s.ds ++ s.hs
structure SideAt (CD CS : Addr) (H : Hp) (pl : Plan) (s : Side) (ct : List (List (Key × V))) : Prop where
  db : DbAt CD CS H s.p pl s.sp s.de s.dr s.ds ct
  hd : HeldAt H s.dh pl s.hs ct
  nd : s.dicts.Nodup
  ap : ∀ d ∈ s.dicts, d ∉ s.fix
theorem SideAt.same {CD CS : Addr} {H H' : Hp} {pl : Plan} {s : Side} {ct : List (List (Key × V))} (S : SideAt CD CS H pl s ct) (e : Same H H') : SideAt CD CS H' pl s ct := ⟨S.db.same e, S.hd.same e, S.nd, S.ap⟩
theorem SideAt.frf {CD CS : Addr} {H H' : Hp} {pl : Plan} {s : Side} {ct : List (List (Key × V))} {F : List Addr} (S : SideAt CD CS H pl s ct) (e : FrF F H H') (nF : ∀ c ∈ F, ∀ xs, H c ≠ some (.tup xs)) (ap : ∀ c ∈ F, c ∉ s.fix ∧ c ∉ s.dicts) : SideAt CD CS H' pl s ct := by
  have k : ∀ G : List Addr, (∀ c ∈ G, c ∈ s.fix ∨ c ∈ s.dicts) → Kept G H H' := fun G hG => e.kept (fun c hc hF => by
    obtain ⟨a1, a2⟩ := ap c hF
    rcases hG c hc with h | h
    · exact a1 h
    · exact a2 h) nF
  refine ⟨S.db.keep (k _ fun c hc => ?_), S.hd.keep (k _ fun c hc => ?_), S.nd, S.ap⟩
  · simp only [foot, List.mem_cons] at hc
    simp only [Side.fix, Side.dicts, List.mem_cons, List.mem_append]
    rcases hc with h | h | h | h | h <;> simp [h]
  · simp only [List.mem_cons] at hc
    simp only [Side.fix, Side.dicts, List.mem_cons, List.mem_append]
    rcases hc with h | h <;> simp [h]
theorem SideAt.step {CD CS : Addr} {H H1 : Hp} {pl : Plan} {s : Side} {ct : List (List (Key × V))} {i : Nat} {d d2 : Addr} {kvs' : List (Key × V)} (S : SideAt CD CS H pl s ct) (hd : s.ds[i]? = some d) (hd2 : s.hs[i]? = some d2)
    (D1 : DbAt CD CS H1 s.p pl s.sp s.de s.dr s.ds (ct.set i kvs')) (e : Fr1 d H H1) : SideAt CD CS (upd H1 d2 (.dK kvs')) pl s (ct.set i kvs') := by
  have hdm : d ∈ s.ds := List.mem_of_getElem? hd
  have hdm2 : d2 ∈ s.hs := List.mem_of_getElem? hd2
  have dj := (List.nodup_append.mp S.nd).2.2
  have hi2 : i < ct.length := by rw [S.hd.cl, ← S.hd.dl]; exact (List.getElem?_eq_some_iff.mp hd2).1
  have h2 : H d2 = some (.dK ct[i]) := S.hd.at_ i d2 _ hd2 (List.getElem?_eq_getElem hi2)
  have hd0 : H d = some (.dK ct[i]) := S.db.at_ i d _ hd (List.getElem?_eq_getElem hi2)
  have n12 : d2 ≠ d := fun z => dj d hdm d2 hdm2 z.symm
  have h2' : H1 d2 = some (.dK ct[i]) := e d2 _ n12 h2
  have ap1 := S.ap d (List.mem_append.mpr (.inl hdm))
  have ap2 := S.ap d2 (List.mem_append.mpr (.inr hdm2))
  have kH : HeldAt H1 s.dh pl s.hs ct := S.hd.keep ⟨fun c hc o ho => e c o (fun z => by
    subst z
    rcases List.mem_cons.mp hc with h | h
    · exact ap1 (by simp [Side.fix, h])
    · exact dj c hdm c h rfl) ho, fun c xs hc => e c _ (ne_of hc hd0 (by intro z; cases z)) hc⟩
  refine ⟨D1.keep ⟨fun c hc o ho => ?_, fun c xs hc => ?_⟩, kH.set (kvs := kvs') hd2 kvs', S.nd, S.ap⟩
  · have : c ≠ d2 := fun z => by
      subst z
      simp only [foot, List.mem_cons] at hc
      rcases hc with h | h | h | h | h
      · exact ap2 (by simp [Side.fix, h])
      · exact ap2 (by simp [Side.fix, h])
      · exact ap2 (by simp [Side.fix, h])
      · exact ap2 (by simp [Side.fix, h])
      · exact dj c h c hdm2 rfl
    rw [upd_ne this]
    exact ho
  · rw [upd_ne (ne_of hc h2' (by intro z; cases z))]
    exact hc
end My
namespace My
open PySem L2
theorem putK_len (kvs : List (Key × V)) (k : Key) (v : V) : (putK kvs k v).length ≤ kvs.length + 1 := by
  unfold putK
  split
  · rw [List.length_map]
    omega
  · rw [List.length_append]
    exact Nat.le_refl _
theorem two_at {α : Type} (f : Nat → α) {k : Nat} (h : k < 2) : [f 0, f 1][k]? = some (f k) := by
  match k, h with
  | 0, _ => rfl
  | 1, _ => rfl
def Young (H : Hp) (ct : List (List (Key × V))) (m : Nat) : Prop := ∀ kvs ∈ ct, kvs.length ≤ m ∧ ∀ q ∈ kvs, ∃ lab cs, Td H q.2 (rowD lab cs) ∧ lab ≤ m
theorem Young.kt {H H' : Hp} {ct : List (List (Key × V))} {m : Nat} (y : Young H ct m) (kt : KT H H') : Young H' ct m := fun kvs hk => ⟨(y kvs hk).1, fun q hq => by
  obtain ⟨lab, cs, h1, h2⟩ := (y kvs hk).2 q hq
  exact ⟨lab, cs, h1.mono kt, h2⟩⟩
theorem Young.up {H : Hp} {ct : List (List (Key × V))} {m n : Nat} (y : Young H ct m) (l : m ≤ n) : Young H ct n := fun kvs hk => ⟨Nat.le_trans (y kvs hk).1 l, fun q hq => by
  obtain ⟨lab, cs, h1, h2⟩ := (y kvs hk).2 q hq
  exact ⟨lab, cs, h1, by omega⟩⟩
theorem Young.set {H : Hp} {ct : List (List (Key × V))} {m i : Nat} {kvs' : List (Key × V)} (y : Young H ct m) (h1 : kvs'.length ≤ m) (h2 : ∀ q ∈ kvs', ∃ lab cs, Td H q.2 (rowD lab cs) ∧ lab ≤ m) : Young H (ct.set i kvs') m := fun kvs hk => by
  rcases List.mem_or_eq_of_mem_set hk with h | rfl
  · exact y kvs h
  · exact ⟨h1, h2⟩
structure Two (CD CS : Addr) (H : Hp) (pl : Plan) (vp : V) (B HL : Addr) (S : Nat → Side) (C : Nat → List (List (Key × V))) (m : Nat) : Prop where
  pln : Td H vp (planD pl)
  bs : H B = some (.lst [.ref (S 0).p, .ref (S 1).p])
  hl : H HL = some (.lst [.ref (S 0).dh, .ref (S 1).dh])
  sd : ∀ k, k < 2 → SideAt CD CS H pl (S k) (C k)
  yg : ∀ k, k < 2 → Young H (C k) m
def Apart (S : Nat → Side) : Prop := ∀ k j, k < 2 → j < 2 → k ≠ j → ∀ c ∈ (S k).dicts, c ∉ (S j).fix ∧ c ∉ (S j).dicts
theorem Two.same {CD CS B HL : Addr} {H H' : Hp} {pl : Plan} {vp : V} {S : Nat → Side} {C : Nat → List (List (Key × V))} {m : Nat} (W : Two CD CS H pl vp B HL S C m) (e : Same H H') : Two CD CS H' pl vp B HL S C m :=
  ⟨W.pln.kt_same e, e _ _ W.bs, e _ _ W.hl, fun k hk => (W.sd k hk).same e, fun k hk => (W.yg k hk).kt (KT.of e)⟩
theorem Two.up {CD CS B HL : Addr} {H : Hp} {pl : Plan} {vp : V} {S : Nat → Side} {C : Nat → List (List (Key × V))} {m n : Nat} (W : Two CD CS H pl vp B HL S C m) (l : m ≤ n) : Two CD CS H pl vp B HL S C n :=
  ⟨W.pln, W.bs, W.hl, W.sd, fun k hk => (W.yg k hk).up l⟩
theorem SideAt.dict {CD CS : Addr} {H : Hp} {pl : Plan} {s : Side} {ct : List (List (Key × V))} (S : SideAt CD CS H pl s ct) {c : Addr} (hc : c ∈ s.dicts) : ∃ kvs, H c = some (.dK kvs) := by
  rcases List.mem_append.mp hc with h | h
  · obtain ⟨i, hi, ei⟩ := List.getElem_of_mem h
    have hi2 : i < ct.length := by rw [S.db.cl, ← S.db.dl]; exact hi
    exact ⟨_, S.db.at_ i c _ (by rw [List.getElem?_eq_getElem hi, ei]) (List.getElem?_eq_getElem hi2)⟩
  · obtain ⟨i, hi, ei⟩ := List.getElem_of_mem h
    have hi2 : i < ct.length := by rw [S.hd.cl, ← S.hd.dl]; exact hi
    exact ⟨_, S.hd.at_ i c _ (by rw [List.getElem?_eq_getElem hi, ei]) (List.getElem?_eq_getElem hi2)⟩
theorem Two.step {CD CS B HL : Addr} {H H1 : Hp} {pl : Plan} {vp : V} {S : Nat → Side} {C : Nat → List (List (Key × V))} {m k i : Nat} {d d2 : Addr} {kvs' : List (Key × V)} (W : Two CD CS H pl vp B HL S C m) (A : Apart S) (hk : k < 2) (hd : (S k).ds[i]? = some d) (hd2 : (S k).hs[i]? = some d2)
    (D1 : DbAt CD CS H1 (S k).p pl (S k).sp (S k).de (S k).dr (S k).ds ((C k).set i kvs')) (e : Fr1 d H H1) (l : kvs'.length ≤ m) (y : ∀ q ∈ kvs', ∃ lab cs, Td H q.2 (rowD lab cs) ∧ lab ≤ m) :
    FrF [d, d2] H (upd H1 d2 (.dK kvs')) ∧ Two CD CS (upd H1 d2 (.dK kvs')) pl vp B HL S (fun j => if j = k then (C k).set i kvs' else C j) m := by
  have hdm : d ∈ (S k).dicts := List.mem_append.mpr (.inl (List.mem_of_getElem? hd))
  have hdm2 : d2 ∈ (S k).dicts := List.mem_append.mpr (.inr (List.mem_of_getElem? hd2))
  obtain ⟨u1, hu1⟩ := (W.sd k hk).dict hdm
  obtain ⟨u2, hu2⟩ := (W.sd k hk).dict hdm2
  have f : FrF [d, d2] H (upd H1 d2 (.dK kvs')) := fun c o hc ho => by
    simp only [List.mem_cons, List.not_mem_nil, or_false, not_or] at hc
    rw [upd_ne hc.2]
    exact e c o hc.1 ho
  have nt : ∀ c ∈ [d, d2], ∀ xs, H c ≠ some (.tup xs) := fun c hc xs z => by
    simp only [List.mem_cons, List.not_mem_nil, or_false] at hc
    rcases hc with rfl | rfl
    · rw [hu1] at z
      cases z
    · rw [hu2] at z
      cases z
  have kt : KT H (upd H1 d2 (.dK kvs')) := (f.kept (G := []) (fun c hc => by cases hc) nt).kt
  have ls : ∀ (c : Addr) (xs : List V), H c = some (.lst xs) → upd H1 d2 (.dK kvs') c = some (.lst xs) := fun c xs h => f c _ (fun z => by
    simp only [List.mem_cons, List.not_mem_nil, or_false] at z
    rcases z with rfl | rfl
    · rw [hu1] at h
      cases h
    · rw [hu2] at h
      cases h) h
  refine ⟨f, W.pln.mono kt, ls _ _ W.bs, ls _ _ W.hl, fun j hj => ?_, fun j hj => ?_⟩
  · show SideAt CD CS _ pl (S j) (if j = k then _ else _)
    split
    · rename_i z
      subst z
      exact (W.sd j hj).step hd hd2 D1 e
    · rename_i z
      refine (W.sd j hj).frf f nt fun c hc => ?_
      simp only [List.mem_cons, List.not_mem_nil, or_false] at hc
      rcases hc with rfl | rfl
      · exact A k j hk hj (fun w => z w.symm) _ hdm
      · exact A k j hk hj (fun w => z w.symm) _ hdm2
  · show Young _ (if j = k then _ else _) m
    split
    · rename_i z
      subst z
      exact ((W.yg j hj).set l y).kt kt
    · exact (W.yg j hj).kt kt
end My
namespace My
open PySem L2
theorem DbAt.live {CD CS p sp de dr : Addr} {H : Hp} {pl : Plan} {ds : List Addr} {ct : List (List (Key × V))} (D : DbAt CD CS H p pl sp de dr ds ct) : ∀ c ∈ foot p sp de dr ds, H c ≠ none := by
  obtain ⟨dx, hp⟩ := D.ob
  obtain ⟨sdx, stv, skvs, s1, _, s3, _⟩ := D.sch.ex
  intro c hc z
  simp only [foot, List.mem_cons] at hc
  rcases hc with rfl | rfl | rfl | rfl | h
  · rw [hp] at z
    cases z
  · rw [s1] at z
    cases z
  · rw [s3] at z
    cases z
  · rw [D.rws] at z
    cases z
  · obtain ⟨i, hi, ei⟩ := List.getElem_of_mem h
    have hi2 : i < ct.length := by rw [D.cl, ← D.dl]; exact hi
    rw [D.at_ i c _ (by rw [List.getElem?_eq_getElem hi, ei]) (List.getElem?_eq_getElem hi2)] at z
    cases z
theorem SideAt.of {CD CS p sp de dr dh : Addr} {H G : Hp} {pl : Plan} {ds hs : List Addr} {ct : List (List (Key × V))} (D : DbAt CD CS H p pl sp de dr ds ct) (Hd : HeldAt H dh pl hs ct) (L : ∀ c ∈ foot p sp de dr ds, G c ≠ none) (n1 : G dh = none) (n2 : ∀ d ∈ hs, G d = none) :
    SideAt CD CS H pl ⟨p, sp, de, dr, ds, dh, hs⟩ ct := by
  obtain ⟨dx, hp⟩ := D.ob
  obtain ⟨sdx, stv, skvs, s1, _⟩ := D.sch.ex
  have inF : ∀ c ∈ ds, c ∈ foot p sp de dr ds := fun c hc => by simp [foot, hc]
  refine ⟨D, Hd, List.nodup_append.mpr ⟨D.nd, Hd.nd, fun x hx y hy e => ?_⟩, fun d hd => ?_⟩
  · subst e
    exact L x (inF x hx) (n2 x hy)
  · intro m
    simp only [Side.fix, List.mem_cons, List.not_mem_nil, or_false] at m
    rcases List.mem_append.mp hd with h | h
    · have hdk : ∃ u, H d = some (.dK u) := by
        obtain ⟨i, hi, ei⟩ := List.getElem_of_mem h
        have hi2 : i < ct.length := by rw [D.cl, ← D.dl]; exact hi
        exact ⟨_, D.at_ i d _ (by rw [List.getElem?_eq_getElem hi, ei]) (List.getElem?_eq_getElem hi2)⟩
      obtain ⟨u, hu⟩ := hdk
      rcases m with rfl | rfl | rfl | rfl | rfl
      · rw [hp] at hu
        cases hu
      · rw [s1] at hu
        cases hu
      · exact D.apart.2 h
      · exact D.apart.1 h
      · exact L _ (inF _ h) n1
    · rcases m with rfl | rfl | rfl | rfl | rfl
      · exact L _ (by simp [foot]) (n2 _ h)
      · exact L _ (by simp [foot]) (n2 _ h)
      · exact L _ (by simp [foot]) (n2 _ h)
      · exact L _ (by simp [foot]) (n2 _ h)
      · exact Hd.apart h
end My
namespace My
open PySem L2
theorem SideAt.fr1 {CD CS a : Addr} {H H' : Hp} {pl : Plan} {s : Side} {ct : List (List (Key × V))} {xs : List V} (S : SideAt CD CS H pl s ct) (h : H a = some (.lst xs)) (e : Fr1 a H H') : SideAt CD CS H' pl s ct := by
  refine S.frf (F := [a]) (fun c o hc ho => e c o (fun z => hc (by simp [z])) ho) (fun c hc ys z => ?_) fun c hc => ?_
  · rw [List.mem_singleton.mp hc, h] at z
    cases z
  · rw [List.mem_singleton.mp hc]
    refine ⟨fun m => ?_, fun m => ?_⟩
    · obtain ⟨dx, hp⟩ := S.db.ob
      obtain ⟨sdx, stv, skvs, s1, _, s3, _⟩ := S.db.sch.ex
      simp only [Side.fix, List.mem_cons, List.not_mem_nil, or_false] at m
      rcases m with rfl | rfl | rfl | rfl | rfl
      · rw [hp] at h
        cases h
      · rw [s1] at h
        cases h
      · rw [s3] at h
        cases h
      · rw [S.db.rws] at h
        cases h
      · rw [S.hd.rws] at h
        cases h
    · obtain ⟨u, hu⟩ := S.dict m
      rw [hu] at h
      cases h
theorem Two.fr1 {CD CS B HL a : Addr} {H H' : Hp} {pl : Plan} {vp : V} {S : Nat → Side} {C : Nat → List (List (Key × V))} {m : Nat} {xs : List V} (W : Two CD CS H pl vp B HL S C m) (h : H a = some (.lst xs)) (e : Fr1 a H H') (n1 : B ≠ a) (n2 : HL ≠ a) : Two CD CS H' pl vp B HL S C m :=
  ⟨W.pln.mono (e.kt h), e _ _ n1 W.bs, e _ _ n2 W.hl, fun k hk => (W.sd k hk).fr1 h e, fun k hk => (W.yg k hk).kt (e.kt h)⟩
end My
namespace My
open PySem PySem.Spec PyProof.Rows L2
section
variable {X : Cx} {k : Nat} {C : Addr} {sp : Sp} {m q : Str} {st : Stmt} {ps : List Str}
theorem run_fn1 {f : Addr} {fd : FuncData} {ps : List Str} {pins : List (Addr × Obj)} {σ : L2.St} {H : Hp} {s : Shared} {Q : VK} {us : List Value} {vs : List V} (F : FnOk X.prog X.w X.K X.mg X.base CX0 k f fd ps sp) (hr : Room (k + 1) X.A) (hb : Binds X.K fd ps [])
    (I : Inv X pins σ H s) (r : Vals vs us) (h : sp vs H Q E0) : wpAny (model X.prog X.w) X.A.in1 (call (.ref f) us) (EP X pins σ Q) X.xe s := by
  have hl : us.length = ps.length := by rw [← r.length]; exact F.len _ _ _ _ h
  have hbt := hb s us I.kIn (by simpa using hl)
  rw [List.append_nil] at hbt
  refine wpAny_call (codeAny_mono (F.run X.A.in1 X.stack s H ⟨us, []⟩ us vs Q E0 hr.in1 I.env0.in1 hbt r h) fun r s' hq => ?_)
  cases r with
  | error e => exact pass0 pins σ H s e s' I hq
  | ok fl =>
    cases fl with
    | ret u => exact I.after hq
    | next => exact False.elim hq
    | brk => exact False.elim hq
    | cont => exact False.elim hq
theorem MethAt.fnIn (D : MethAt X.K C m q st ps) {f : Addr} (hm : Meth X.K C m f) : PySem.W.fnIn X.K f = true := by
  obtain ⟨f', fd, F, hm', hb⟩ := D.ex
  have : f' = f := by
    have h1 := hm.at_
    rw [hm'.at_] at h1
    exact Value.ref.inj (Option.some.inj (Option.some.inj h1))
  subst this
  obtain ⟨oc, od, kV, doc, pm, an, cdv, ct, osl, rfl, lk, hcd⟩ := F.ex
  unfold PySem.W.fnIn
  rw [lk]
theorem pe_ixOwn {a b : Expr} {ta tb : TE} {pos : Pos} (ha : PE X a ta) (hb : PE X b tb) (G : MethOk X.prog X.w X.K X.mg X.base k C "__getitem__" sp) (D : MethAt X.K C "__getitem__" q st ps) (hr : Room (k + 1) X.A)
    (hs : ∀ o i, subscripted b true o i = runValue (.builtin "lifetime.subscript" ⟨[o, i], []⟩) := by intro _ _; rfl) : PE X (.Subscript a b pos) (tOp (rGetOwn C sp) ta tb) := by
  obtain ⟨f, fd, ps2, F, hm, hbd, c⟩ := G.ex
  refine ⟨fun pins s σ H Q I h => ?_⟩
  refine Subscript_ (binT ha hb I h fun v u s2 x y H2 I2 rx ry q => ?_)
  obtain ⟨p, dx, fs, rfl, hp, q⟩ := q
  obtain rfl : v = Value.ref p := rx
  obtain ⟨m, fr⟩ := I2.fr
  obtain ⟨mA, O, _⟩ := ins_get I2.hok hp
  obtain ⟨od, J, _⟩ := O.look
  exact PySem.W.sub_K fr I2.ok.mod.kin J hm.at_ (D.fnIn hm) hm.fn (run_fn1 (us := [.ref p, u]) (vs := [.ref p, y]) F hr hbd I2 (.cons rfl (.cons ry .nil)) q) (hs _ _)
def rLenOwn (C : Addr) (sp : Sp) : List V → Hp → VK → Prop := fun xs H Q => ∃ p dx fs, xs = [.ref p] ∧ H p = some (.ins C dx fs) ∧ sp [.ref p] H (fun v H2 => ∃ n : Int, v = .int n ∧ 0 ≤ n ∧ n < 2 ^ 63 ∧ Q (.int n) H2) E0
theorem call_lenOwn (G : MethOk X.prog X.w X.K X.mg X.base k C "__len__" sp) (hr : Room (k + 1) X.A) : CallR X (.builtin "len") (rLenOwn C sp) := by
  obtain ⟨f, fd, ps2, F, hm, hbd, c⟩ := G.ex
  intro pins s0 σ H0 xs us Q I0 r0 h0
  obtain ⟨p, dx, fs, rfl, hp, h0⟩ := h0
  obtain ⟨u, rfl, rx⟩ := vals1 r0
  obtain rfl : u = Value.ref p := rx
  obtain ⟨m, fr⟩ := I0.fr
  obtain ⟨mA, O, _⟩ := ins_get I0.hok hp
  obtain ⟨od, J, _⟩ := O.look
  refine PySem.W.len_K fr I0.ok.mod.kin J hm.at_ hm.fn (thn (run_fn1 (us := [.ref p]) (vs := [.ref p]) F hr hbd I0 (.cons rfl .nil) h0) fun v s1 ⟨z, H1, I1, r1, n, ez, n0, n1, q⟩ => ?_)
  subst ez
  obtain ⟨t, rfl⟩ := r1
  exact ⟨⟨n0, n1⟩, ⟨.int n, H1, I1.tok _, ⟨_, rfl⟩, q⟩⟩
end
end My
namespace My
open PySem L2
def lockN : Nat → TE → TE
  | 0, t => t
  | n + 1, t => tLockE (lockN n t)
def tLocks (t : TE) : TE := fun σ H Q => ∃ n, lockN n t σ H Q
theorem pe_locks {X : Cx} {e : Expr} {t : TE} (h : PE X e t) : PE X e (tLocks t) := by
  have go : ∀ n, PE X e (lockN n t) := fun n => by
    induction n with
    | zero => exact h
    | succ n ih => exact pe_lock ih
  exact ⟨fun pins s σ H Q I ⟨n, hn⟩ => (go n).run pins s σ H Q I hn⟩
theorem lockN_of {t : TE} {σ : L2.St} : ∀ (L : List (Addr × List (Key × V))) (H : Hp) (Q : VK), (L.map (·.1)).Nodup → (∀ p ∈ L, H p.1 = some (.dK p.2)) →
    (∀ (G : Hp) (R : VK), (∀ p ∈ L, ∃ od, G p.1 = some (.frz od (.dK p.2))) → (∀ c, c ∉ L.map (·.1) → G c = H c) →
      (∀ v H', (∀ p ∈ L, H' p.1 = G p.1) → (∀ H'', (∀ p ∈ L, H'' p.1 = some (.dK p.2)) → (∀ c, c ∉ L.map (·.1) → H'' c = H' c) → Q v H'') → R v H') → t σ G R) → lockN L.length t σ H Q
  | [], H, Q, _, _, h => h H Q (by simp) (fun _ _ => rfl) fun v H' _ k => k H' (by simp) fun _ _ => rfl
  | (d, kvs) :: L, H, Q, nd, hd, h => by
    rw [List.map_cons] at nd
    obtain ⟨n1, n2⟩ := List.nodup_cons.mp nd
    have ne : ∀ p ∈ L, p.1 ≠ d := fun p hp z => n1 (by rw [← z]; exact List.mem_map.mpr ⟨p, hp, rfl⟩)
    refine ⟨d, .dK kvs, hd _ List.mem_cons_self, trivial, fun od => lockN_of L _ _ n2 (fun p hp => by rw [upd_ne (ne p hp)]; exact hd p (List.mem_cons_of_mem _ hp)) fun G R hG hGc hR => ?_⟩
    have hGd : G d = some (.frz od (.dK kvs)) := by rw [hGc d n1, upd_same]
    refine h G R (fun p hp => ?_) (fun c hc => ?_) fun v H' e k => hR v H' (fun p hp => e p (List.mem_cons_of_mem _ hp)) fun H'' r1 r2 => ⟨?_, k _ (fun p hp => ?_) fun c hc => ?_⟩
    · rcases List.mem_cons.mp hp with rfl | hp
      · exact ⟨od, hGd⟩
      · exact hG p hp
    · rw [List.map_cons, List.mem_cons, not_or] at hc
      rw [hGc c hc.2, upd_ne hc.1]
    · rw [r2 d n1, e (d, kvs) List.mem_cons_self, hGd]
    · rcases List.mem_cons.mp hp with rfl | hp
      · exact upd_same
      · rw [upd_ne (ne p hp)]
        exact r1 p hp
    · rw [List.map_cons, List.mem_cons, not_or] at hc
      rw [upd_ne hc.1]
      exact r2 c hc.2
section
variable {g g1 : TG} {tt tt1 : TT} {te : TE} {vs vs1 : List Nat} {σ σ2 : L2.St} {wi1 : TI}
theorem in2_keys {d : Addr} {o : Obj} {kvs : List (Key × V)} {D : Addr} {Nx : Hp → Prop} {H4 : Hp} (Pv : Nat → Hp → Prop) (h0 : Pv 0 H4) (hl : ∀ j Hj, j ≤ kvs.length → Pv j Hj → Hj d = some (.frz o (.dK kvs)))
    (hs : ∀ j k v Hj, kvs[j]? = some (k, v) → Pv j Hj → g1 (kV k) (wipe σ2 vs1) Hj fun σ3 H5 => wipe σ3 vs1 = wipe σ2 vs1 ∧ tt1 σ3 H5 fun b H6 =>
      if b = true then te σ3 H6 fun y H7 => ∃ acc, H7 D = some (.lst acc) ∧ acc.length < sizeLine ∧ Pv (j + 1) (upd H7 D (.lst (acc ++ [y]))) else Pv (j + 1) H6)
    (hd : ∀ Hj, Pv kvs.length Hj → Nx Hj) : In2 (Itk d o kvs) g1 tt1 te vs1 σ2 D Nx H4 := by
  refine ⟨fun j m Hj => m = kvs.length - j ∧ j ≤ kvs.length ∧ Pv j Hj, ⟨_, rfl, Nat.zero_le _, h0⟩, ?_⟩
  rintro j m Hj ⟨em, hj, p⟩
  have q := hl j Hj hj p
  by_cases l : j < kvs.length
  · refine Or.inr ⟨⟨q, l⟩, Pv (j + 1), fun H' p' => ⟨_, by omega, rfl, l, p'⟩, ?_⟩
    rintro x H' ⟨eh, k, v, hk, rfl⟩
    rw [eh]
    exact hs j k v Hj hk p
  · obtain rfl : j = kvs.length := by omega
    exact Or.inl ⟨⟨q, Nat.le_refl _⟩, hd Hj p⟩
theorem lc2_keys {d : Addr} {o : Obj} {kvs : List (Key × V)} {D : Addr} {Qd : Hp → Prop} {H1 : Hp} (Pv : Nat → Hp → Prop) (h0 : Pv 0 (upd H1 D (.lst []))) (hl : ∀ i Hi, i ≤ kvs.length → Pv i Hi → Hi d = some (.frz o (.dK kvs)))
    (hs : ∀ i k v Hi, kvs[i]? = some (k, v) → Pv i Hi → g (kV k) (wipe σ vs) Hi fun σ2 H2 => wipe σ2 vs = wipe σ vs ∧ tt σ2 H2 fun b H3 =>
      if b = true then wi1 σ2 H3 fun J1 H4 => In2 J1 g1 tt1 te vs1 σ2 D (Pv (i + 1)) H4 else Pv (i + 1) H3)
    (hd : ∀ Hi, Pv kvs.length Hi → Qd Hi) :
    ∃ W : Nat → Nat → Hp → Prop, (∃ m, W 0 m (upd H1 D (.lst []))) ∧ ∀ i m H, W i m H →
      ((Itk d o kvs).stop i H ∧ Qd H) ∨ ((Itk d o kvs).go i H ∧ ∃ Nx : Hp → Prop, (∀ H', Nx H' → ∃ m', m' < m ∧ W (i + 1) m' H') ∧ ∀ x H', (Itk d o kvs).yld i H x H' → g x (wipe σ vs) H' fun σ2 H2 => wipe σ2 vs = wipe σ vs ∧ tt σ2 H2 fun b H3 =>
        if b = true then wi1 σ2 H3 fun J1 H4 => In2 J1 g1 tt1 te vs1 σ2 D Nx H4 else Nx H3) := by
  refine ⟨fun i m Hi => m = kvs.length - i ∧ i ≤ kvs.length ∧ Pv i Hi, ⟨_, rfl, Nat.zero_le _, h0⟩, ?_⟩
  rintro i m Hi ⟨em, hi, p⟩
  have q := hl i Hi hi p
  by_cases l : i < kvs.length
  · refine Or.inr ⟨⟨q, l⟩, Pv (i + 1), fun H' p' => ⟨_, by omega, rfl, l, p'⟩, ?_⟩
    rintro x H' ⟨eh, k, v, hk, rfl⟩
    rw [eh]
    exact hs i k v Hi hk p
  · obtain rfl : i = kvs.length := by omega
    exact Or.inl ⟨⟨q, Nat.le_refl _⟩, hd Hi p⟩
end
theorem sorted_one : ∀ {l m : List Int}, l.Perm m → l.Pairwise (· ≤ ·) → m.Pairwise (· ≤ ·) → l = m
  | [], m, p, _, _ => p.nil_eq
  | x :: l, [], p, _, _ => absurd p.length_eq (by simp)
  | x :: l, y :: m, p, hl, hm => by
    rw [List.pairwise_cons] at hl hm
    have h1 : x ≤ y := by
      rcases List.mem_cons.mp (p.symm.subset List.mem_cons_self) with h | h
      · omega
      · exact hl.1 y h
    have h2 : y ≤ x := by
      rcases List.mem_cons.mp (p.subset List.mem_cons_self) with h | h
      · omega
      · exact hm.1 x h
    have e : x = y := by omega
    subst e
    rw [sorted_one ((List.perm_cons x).mp p) hl.2 hm.2]
end My
namespace My
open PySem L2
structure Many (n : Nat) (CD CS : Addr) (H : Hp) (PL : Nat → Plan) (S : Nat → Side) (C : Nat → List (List (Key × V))) (m : Nat) : Prop where
  sd : ∀ k, k < n → SideAt CD CS H (PL k) (S k) (C k)
  ln : ∀ k, k < n → ∀ kvs ∈ C k, kvs.length ≤ m
def ApartN (n : Nat) (S : Nat → Side) : Prop := ∀ k j, k < n → j < n → k ≠ j → ∀ c ∈ (S k).dicts, c ∉ (S j).fix ∧ c ∉ (S j).dicts
section
variable {n : Nat} {CD CS : Addr} {H H' : Hp} {PL : Nat → Plan} {S : Nat → Side} {C : Nat → List (List (Key × V))} {m : Nat}
theorem Many.same (W : Many n CD CS H PL S C m) (e : Same H H') : Many n CD CS H' PL S C m := ⟨fun k hk => (W.sd k hk).same e, W.ln⟩
theorem Many.up {m' : Nat} (W : Many n CD CS H PL S C m) (l : m ≤ m') : Many n CD CS H PL S C m' := ⟨W.sd, fun k hk kvs h => Nat.le_trans (W.ln k hk kvs h) l⟩
theorem Many.fr1 {a : Addr} {xs : List V} (W : Many n CD CS H PL S C m) (h : H a = some (.lst xs)) (e : Fr1 a H H') : Many n CD CS H' PL S C m := ⟨fun k hk => (W.sd k hk).fr1 h e, W.ln⟩
theorem Many.step {H1 : Hp} {k i : Nat} {d d2 : Addr} {kvs' : List (Key × V)} (W : Many n CD CS H PL S C m) (A : ApartN n S) (hk : k < n) (hd : (S k).ds[i]? = some d) (hd2 : (S k).hs[i]? = some d2)
    (D1 : DbAt CD CS H1 (S k).p (PL k) (S k).sp (S k).de (S k).dr (S k).ds ((C k).set i kvs')) (e : Fr1 d H H1) (l : kvs'.length ≤ m) :
    FrF [d, d2] H (upd H1 d2 (.dK kvs')) ∧ KT H (upd H1 d2 (.dK kvs')) ∧ (∀ (c : Addr) (xs : List V), H c = some (.lst xs) → upd H1 d2 (.dK kvs') c = some (.lst xs)) ∧ Many n CD CS (upd H1 d2 (.dK kvs')) PL S (fun j => if j = k then (C k).set i kvs' else C j) m := by
  have hdm : d ∈ (S k).dicts := List.mem_append.mpr (.inl (List.mem_of_getElem? hd))
  have hdm2 : d2 ∈ (S k).dicts := List.mem_append.mpr (.inr (List.mem_of_getElem? hd2))
  obtain ⟨u1, hu1⟩ := (W.sd k hk).dict hdm
  obtain ⟨u2, hu2⟩ := (W.sd k hk).dict hdm2
  have f : FrF [d, d2] H (upd H1 d2 (.dK kvs')) := fun c o hc ho => by
    simp only [List.mem_cons, List.not_mem_nil, or_false, not_or] at hc
    rw [upd_ne hc.2]
    exact e c o hc.1 ho
  have nt : ∀ c ∈ [d, d2], ∀ xs, H c ≠ some (.tup xs) := fun c hc xs z => by
    simp only [List.mem_cons, List.not_mem_nil, or_false] at hc
    rcases hc with rfl | rfl
    · rw [hu1] at z
      cases z
    · rw [hu2] at z
      cases z
  have kt : KT H (upd H1 d2 (.dK kvs')) := (f.kept (G := []) (fun c hc => by cases hc) nt).kt
  have ls : ∀ (c : Addr) (xs : List V), H c = some (.lst xs) → upd H1 d2 (.dK kvs') c = some (.lst xs) := fun c xs h => f c _ (fun z => by
    simp only [List.mem_cons, List.not_mem_nil, or_false] at z
    rcases z with rfl | rfl
    · rw [hu1] at h
      cases h
    · rw [hu2] at h
      cases h) h
  refine ⟨f, kt, ls, fun j hj => ?_, fun j hj => ?_⟩
  · show SideAt CD CS _ (PL j) (S j) (if j = k then _ else _)
    split
    · rename_i z
      subst z
      exact (W.sd j hj).step hd hd2 D1 e
    · rename_i z
      refine (W.sd j hj).frf f nt fun c hc => ?_
      simp only [List.mem_cons, List.not_mem_nil, or_false] at hc
      rcases hc with rfl | rfl
      · exact A k j hk hj (fun w => z w.symm) _ hdm
      · exact A k j hk hj (fun w => z w.symm) _ hdm2
  · show ∀ kvs ∈ (if j = k then _ else _), _
    split
    · rename_i z
      subst z
      intro kvs hv
      rcases List.mem_or_eq_of_mem_set hv with h | rfl
      · exact W.ln j hj kvs h
      · exact l
    · exact W.ln j hj
end
def nils (pl : Plan) : List (List (Key × V)) := pl.map fun _ => []
theorem nils_at {pl : Plan} {i : Nat} {kvs : List (Key × V)} (h : (nils pl)[i]? = some kvs) : kvs = [] := by
  unfold nils at h
  rw [List.getElem?_map] at h
  obtain ⟨_, _, e⟩ := Option.map_eq_some_iff.mp h
  exact e.symm
theorem nils_mem {pl : Plan} {kvs : List (Key × V)} (h : kvs ∈ nils pl) : kvs = [] := by
  obtain ⟨_, _, rfl⟩ := List.mem_map.mp h
  rfl
structure Fill (H0 : Hp) (A : Addr) (pl : Plan) (j : Nat) (hs : List Addr) (H : Hp) : Prop where
  le : j ≤ pl.length
  hl : hs.length = j
  nd : hs.Nodup
  ds : ∀ d ∈ hs, H0 d = none ∧ d ≠ A ∧ H d = some (.dK [])
  at_ : H A = some (.dK (rowsK (pl.take j) hs))
  fr : Fr1 A H0 H
theorem Fill.start {H0 : Hp} {A : Addr} (pl : Plan) (h : H0 A = some (.dK [])) : Fill H0 A pl 0 [] H0 := ⟨Nat.zero_le _, rfl, List.nodup_nil, by simp, h, Fr1.refl _ _⟩
theorem Fill.no {H0 H : Hp} {A : Addr} {pl : Plan} {j : Nat} {hs : List Addr} (F : Fill H0 A pl j hs H) (nd : (pl.map (·.1)).Nodup) {en : Ent} (hen : pl[j]? = some en) : valV (rowsK (pl.take j) hs) (Sum.inr en.1 : Key) = none := by
  have hjp : j < pl.length := (List.getElem?_eq_some_iff.mp hen).1
  refine valV_no (rowsK_keys (by rw [List.length_take, F.hl]; omega)) fun hm => ?_
  obtain ⟨e2, he2, ee⟩ := List.mem_map.mp hm
  obtain ⟨m, hm2, em⟩ := List.getElem_of_mem he2
  rw [List.getElem_take] at em
  have hmj : m < j := by
    rw [List.length_take] at hm2
    omega
  obtain ⟨l2, g2⟩ := List.getElem?_eq_some_iff.mp hen
  have a1 : (pl.map (·.1))[m]'(by rw [List.length_map]; omega) = (pl.map (·.1))[j]'(by rw [List.length_map]; omega) := by
    rw [List.getElem_map, List.getElem_map, g2, em, ee]
  have := (List.getElem_inj nd).mp a1
  omega
theorem Fill.next {H0 H : Hp} {A d : Addr} {pl : Plan} {j : Nat} {hs : List Addr} (F : Fill H0 A pl j hs H) (nd : (pl.map (·.1)).Nodup) {en : Ent} (hen : pl[j]? = some en) (hd : H d = none) :
    upd H d (.dK []) A = some (.dK (rowsK (pl.take j) hs)) ∧ (rowsK (pl.take j) hs).length ≤ j ∧ Fill H0 A pl (j + 1) (hs ++ [d]) (upd (upd H d (.dK [])) A (.dK (putK (rowsK (pl.take j) hs) (Sum.inr en.1) (.ref d)))) := by
  have hjp : j < pl.length := (List.getElem?_eq_some_iff.mp hen).1
  have hen2 : pl[j] = en := (List.getElem?_eq_some_iff.mp hen).2
  have ndA : d ≠ A := fun z => by
    rw [z, F.at_] at hd
    cases hd
  have hdi : H0 d = none := F.fr.free ndA hd
  have hno := F.no nd hen
  have hl := F.hl
  refine ⟨by rw [upd_ne ndA.symm]; exact F.at_, ?_, hjp, by simp [F.hl], nd_snoc F.nd fun m => ?_, fun c hc => ?_, ?_, ?_⟩
  · unfold rowsK
    rw [List.length_zip, List.length_map, List.length_map, List.length_take]
    omega
  · have := (F.ds d m).2.2
    rw [hd] at this
    cases this
  · rcases List.mem_append.mp hc with m | m
    · obtain ⟨a1, a2, a3⟩ := F.ds c m
      exact ⟨a1, a2, by rw [upd_ne a2, upd_ne (fun z => by rw [z, hd] at a3; cases a3)]; exact a3⟩
    · rw [List.mem_singleton.mp m]
      exact ⟨hdi, ndA, by rw [upd_ne ndA, upd_same]⟩
  · rw [upd_same, putK_new _ hno]
    refine congrArg (fun l => some (HO.dK l)) ?_
    unfold rowsK
    rw [List.take_succ_eq_append_getElem hjp, List.map_append, List.map_append, List.zip_append (by rw [List.length_map, List.length_map, List.length_take]; omega), hen2]
    rfl
  · exact (F.fr.upd hdi).at
theorem Fill.held {H0 H : Hp} {A : Addr} {pl : Plan} {j : Nat} {hs : List Addr} (F : Fill H0 A pl j hs H) (h : j = pl.length) : HeldAt H A pl hs (nils pl) := by
  subst h
  refine ⟨by have := F.at_; rw [List.take_length] at this; exact this, F.hl, by unfold nils; rw [List.length_map], F.nd, fun m => (F.ds A m).2.1 rfl, fun j d kvs h1 h2 => ?_⟩
  rw [nils_at h2]
  exact (F.ds d (List.mem_of_getElem? h1)).2.2
end My
namespace My
open PySem L2
def ft (s : Side) : List Addr := foot s.p s.sp s.de s.dr s.ds
theorem pair_fn {α : Type} (x y : α) : ∃ f : Nat → α, f 0 = x ∧ f 1 = y := ⟨fun k => match k with | 0 => x | _ => y, rfl, rfl⟩
section
variable {CD CS : Addr} {G H H' Hb : Hp} {PL : Nat → Plan} {S : Nat → Side} {i n : Nat} {A : Nat → Addr} {hs : Nat → List Addr}
theorem DbAt.fr1 {p sp de dr a : Addr} {pl : Plan} {ds : List Addr} {ct : List (List (Key × V))} {xs : List V} (D : DbAt CD CS H p pl sp de dr ds ct) (h : H a = some (.lst xs)) (e : Fr1 a H H') : DbAt CD CS H' p pl sp de dr ds ct := by
  refine D.keep ⟨fun c hc o ho => e c o (fun z => ?_) ho, e.kt h⟩
  subst z
  obtain ⟨dx, hp⟩ := D.ob
  obtain ⟨sdx, stv, skvs, s1, _, s3, _⟩ := D.sch.ex
  simp only [foot, List.mem_cons] at hc
  rcases hc with rfl | rfl | rfl | rfl | hc
  · rw [hp] at h
    cases h
  · rw [s1] at h
    cases h
  · rw [s3] at h
    cases h
  · rw [D.rws] at h
    cases h
  · obtain ⟨j, hj, ej⟩ := List.getElem_of_mem hc
    have hj2 : j < ct.length := by rw [D.cl, ← D.dl]; exact hj
    rw [D.at_ j c _ (by rw [List.getElem?_eq_getElem hj, ej]) (List.getElem?_eq_getElem hj2)] at h
    cases h
structure Bases (i : Nat) (CD CS : Addr) (H : Hp) (PL : Nat → Plan) (S : Nat → Side) : Prop where
  db : ∀ k, k < i → DbAt CD CS H (S k).p (PL k) (S k).sp (S k).de (S k).dr (S k).ds (nils (PL k))
  ap : ∀ k j, k < i → j < i → k ≠ j → ∀ c ∈ ft (S k), c ∉ ft (S j)
theorem Bases.zero : Bases 0 CD CS H PL S := ⟨fun k h => absurd h (Nat.not_lt_zero _), fun k j h => absurd h (Nat.not_lt_zero _)⟩
theorem Bases.same (B : Bases i CD CS H PL S) (e : Same H H') : Bases i CD CS H' PL S := ⟨fun k h => (B.db k h).same e, B.ap⟩
theorem Bases.fr1 {a : Addr} {xs : List V} (B : Bases i CD CS H PL S) (h : H a = some (.lst xs)) (e : Fr1 a H H') : Bases i CD CS H' PL S := ⟨fun k hk => (B.db k hk).fr1 h e, B.ap⟩
def addS (S : Nat → Side) (i : Nat) (s : Side) : Nat → Side := fun k => if k = i then s else S k
theorem addS_at (S : Nat → Side) (i : Nat) (s : Side) : addS S i s i = s := if_pos rfl
theorem addS_ne (S : Nat → Side) (i : Nat) (s : Side) {k : Nat} (h : k ≠ i) : addS S i s k = S k := if_neg h
theorem Bases.add (B : Bases i CD CS H PL S) (e : Same H H') {s : Side} (D : DbAt CD CS H' s.p (PL i) s.sp s.de s.dr s.ds (nils (PL i))) (f : ∀ c ∈ ft s, H c = none) : Bases (i + 1) CD CS H' PL (addS S i s) := by
  refine ⟨fun k hk => ?_, fun k j hk hj hkj c hc hm => ?_⟩
  · by_cases z : k = i
    · subst z
      rw [addS_at]
      exact D
    · rw [addS_ne _ _ _ z]
      exact (B.db k (by omega)).same e
  · by_cases z : k = i
    · subst z
      rw [addS_at] at hc
      rw [addS_ne _ _ _ (fun w => hkj w.symm)] at hm
      exact (B.db j (by omega)).live c hm (f c hc)
    · rw [addS_ne _ _ _ z] at hc
      by_cases w : j = i
      · subst w
        rw [addS_at] at hm
        exact (B.db k (by omega)).live c hc (f c hm)
      · rw [addS_ne _ _ _ w] at hm
        exact B.ap k j (by omega) (by omega) hkj c hc hm
structure Helds (i n : Nat) (Hb H : Hp) (PL : Nat → Plan) (A : Nat → Addr) (hs : Nat → List Addr) : Prop where
  hd : ∀ k, k < i → HeldAt H (A k) (PL k) (hs k) (nils (PL k))
  rest : ∀ k, i ≤ k → k < n → H (A k) = some (.dK [])
  free : ∀ k, k < i → ∀ d ∈ hs k, Hb d = none
  dj : ∀ k j, k < i → j < i → k ≠ j → ∀ d ∈ hs k, d ∉ hs j
  fr : ∀ c o, (∀ k, k < n → c ≠ A k) → Hb c = some o → H c = some o
theorem Helds.start (h : ∀ k, k < n → Hb (A k) = some (.dK [])) : Helds 0 n Hb Hb PL A hs := ⟨fun k hk => absurd hk (Nat.not_lt_zero _), fun k _ hk => h k hk, fun k hk => absurd hk (Nat.not_lt_zero _), fun k j hk => absurd hk (Nat.not_lt_zero _), fun _ _ _ h => h⟩
theorem HeldAt.live {dh : Addr} {pl : Plan} {l : List Addr} {ct : List (List (Key × V))} (D : HeldAt H dh pl l ct) : ∀ c ∈ dh :: l, ∃ u, H c = some (.dK u) := fun c hc => by
  rcases List.mem_cons.mp hc with rfl | h
  · exact ⟨_, D.rws⟩
  · obtain ⟨m, hm, em⟩ := List.getElem_of_mem h
    have hm2 : m < ct.length := by rw [D.cl, ← D.dl]; exact hm
    exact ⟨_, D.at_ m c _ (by rw [List.getElem?_eq_getElem hm, em]) (List.getElem?_eq_getElem hm2)⟩
theorem Helds.add (Q : Helds i n Hb H PL A hs) (hb : ∀ k, k < n → Hb (A k) = some (.dK [])) (hA : ∀ k j, k < n → j < n → k ≠ j → A k ≠ A j) (hi : i < n) {l : List Addr} {j0 : Nat} (F : Fill H (A i) (PL i) j0 l H') (hj : j0 = (PL i).length) : Helds (i + 1) n Hb H' PL A (fun k => if k = i then l else hs k) := by
  have hAi : H (A i) = some (.dK []) := Q.rest i (Nat.le_refl _) hi
  have kt : KT H H' := fun c ys hc => F.fr c _ (ne_of hc hAi (by intro z; cases z)) hc
  have HA := F.held hj
  have nin : ∀ k, k < i → A i ∉ A k :: hs k := fun k hk m => by
    rcases List.mem_cons.mp m with h | h
    · exact hA i k hi (by omega) (by omega) h
    · have h2 := Q.free k hk _ h
      rw [hb i hi] at h2
      cases h2
  have frH : ∀ k, k < i → ∀ c ∈ A k :: hs k, H c ≠ none := fun k hk c hc z => by
    obtain ⟨u, hu⟩ := (Q.hd k hk).live c hc
    rw [hu] at z
    cases z
  have lb : ∀ d ∈ l, Hb d = none := fun d hd => by
    cases q : Hb d with
    | none => rfl
    | some o =>
      have h1 := (F.ds d hd).1
      have : ∀ k, k < n → d ≠ A k := fun k hk z => by
        subst z
        by_cases w : k < i
        · exact frH k w _ List.mem_cons_self h1
        · rw [Q.rest k (by omega) hk] at h1
          cases h1
      rw [Q.fr d o this q] at h1
      cases h1
  refine ⟨fun k hk => ?_, fun k hk hkn => ?_, fun k hk d hd => ?_, fun k j hk hj hkj d hd hm => ?_, fun c o hc ho => ?_⟩
  · by_cases z : k = i
    · subst z
      rw [if_pos rfl]
      exact HA
    · rw [if_neg z]
      exact (Q.hd k (by omega)).keep ⟨fun c hc o ho => F.fr c o (fun w => nin k (by omega) (by rw [← w]; exact hc)) ho, kt⟩
  · exact F.fr _ _ (hA k i hkn hi (by omega)) (Q.rest k (by omega) hkn)
  · by_cases z : k = i
    · subst z
      rw [if_pos rfl] at hd
      exact lb d hd
    · rw [if_neg z] at hd
      exact Q.free k (by omega) d hd
  · by_cases z : k = i
    · subst z
      rw [if_pos rfl] at hd
      rw [if_neg (fun w => hkj w.symm)] at hm
      exact frH j (by omega) d (List.mem_cons_of_mem _ hm) (F.ds d hd).1
    · rw [if_neg z] at hd
      by_cases w : j = i
      · subst w
        rw [if_pos rfl] at hm
        exact frH k (by omega) d (List.mem_cons_of_mem _ hd) (F.ds d hm).1
      · rw [if_neg w] at hm
        exact Q.dj k j (by omega) (by omega) hkj d hd hm
  · exact F.fr c o (hc i hi) (Q.fr c o hc ho)
def sides (S : Nat → Side) (A : Nat → Addr) (hs : Nat → List Addr) : Nat → Side := fun k => ⟨(S k).p, (S k).sp, (S k).de, (S k).dr, (S k).ds, A k, hs k⟩
theorem sides_of (B : Bases n CD CS G PL S) (eG : Same G Hb) (e : Same G H) (Q : Helds n n Hb H PL A hs) (nA : ∀ k, k < n → G (A k) = none) (hb : ∀ k, k < n → Hb (A k) = some (.dK [])) :
    Many n CD CS H PL (sides S A hs) (fun k => nils (PL k)) 0 ∧ ApartN n (sides S A hs) ∧ ∀ k, k < n → A k ∉ ft (S k) := by
  have gh : ∀ k, k < n → ∀ d ∈ hs k, G d = none := fun k hk d hd => eG.free (Q.free k hk d hd)
  refine ⟨⟨fun k hk => SideAt.of (((B.db k hk).same e)) (Q.hd k hk) (B.db k hk).live (nA k hk) (gh k hk), fun k hk kvs h => by rw [nils_mem h]; exact Nat.le_refl _⟩, fun k j hk hj hkj c hc => ?_, fun k hk m => (B.db k hk).live _ m (nA k hk)⟩
  have inF : ∀ k c, c ∈ (S k).ds → c ∈ ft (S k) := fun k c h => by simp [ft, foot, h]
  have inX : ∀ c, c ∈ (sides S A hs j).fix → c ∈ ft (S j) ∨ c = A j := fun c h => by
    simp only [sides, Side.fix, List.mem_cons, List.not_mem_nil, or_false] at h
    rcases h with rfl | rfl | rfl | rfl | rfl
    · exact .inl (by simp [ft, foot])
    · exact .inl (by simp [ft, foot])
    · exact .inl (by simp [ft, foot])
    · exact .inl (by simp [ft, foot])
    · exact .inr rfl
  rcases List.mem_append.mp hc with h | h
  · have h : c ∈ (S k).ds := h
    have lv := (B.db k hk).live c (inF k c h)
    refine ⟨fun m => ?_, fun m => ?_⟩
    · rcases inX c m with g | rfl
      · exact B.ap k j hk hj hkj c (inF k c h) g
      · exact lv (nA j hj)
    · rcases List.mem_append.mp m with g | g
      · exact B.ap k j hk hj hkj c (inF k c h) (inF j c g)
      · exact lv (gh j hj c g)
  · have h : c ∈ hs k := h
    refine ⟨fun m => ?_, fun m => ?_⟩
    · rcases inX c m with g | rfl
      · exact (B.db j hj).live c g (gh k hk c h)
      · have := Q.free k hk _ h
        rw [hb j hj] at this
        cases this
    · rcases List.mem_append.mp m with g | g
      · exact (B.db j hj).live c (inF j c g) (gh k hk c h)
      · exact Q.dj k j hk hj hkj c h g
end
end My
namespace My
open PySem PySem.Spec PyProof.Rows L2
structure InitOk (P : Program) (w : World) (K : PySem.W.Frag) (mg : Str → Option Value) (base : Heap) (k : Nat) (C : Addr) (x : Str) (sp : Sp) : Prop where
  ex : ∃ f fd ps mc, FnOk P w K mg base CX0 k f fd ps sp ∧ PySem.W.keepIn K (.ref f) = true ∧ Binds K fd ps [] ∧ mg x = some (.ref C) ∧ ClX.CRead K C mc ∧ ClX.CVal K C mc "__init__" (.ref f) (.ref f)
structure BaseAt (K : PySem.W.Frag) (mg : Str → Option Value) (C : Addr) (x : Str) : Prop where
  mg : mg x = some (.ref C)
  rd : ∃ mc f, PySem.W.readsIn K C mc = true ∧ PySem.W.specialIn K (.ref C) "__getattribute__" = some (some (.builtin "type.__getattribute__")) ∧ PySem.W.findCls K (.ref C) mc "__init__" = some (.val (.ref f)) ∧ PySem.W.findIn K (.ref C) "__init__" = some (some (.ref f))
structure ErrAt (K : PySem.W.Frag) (mg : Str → Option Value) (C : Addr) (x : Str) (names : List Str) : Prop where
  mg : mg x = some (.ref C)
  ox : OexC K C
  xf : XfC K C
  no : ∀ f ∈ names, PySem.W.findIn K (.ref C) f = some none
section
variable {P : Program} {w : World} {K : PySem.W.Frag} {mg : Str → Option Value} {base : Heap} {k : Nat} {x m q : Str} {C : Addr} {sp : Sp} {N ps : List Str} {st : Stmt}
theorem MethAt.init (D : MethAt K C "__init__" q st ps) (c : BaseAt K mg C x) (S : FnScope N ps (defScope st)) (len : ∀ vs H Q E, sp vs H Q E → vs.length = ps.length) (b : BodyOk P w K mg base k N q st sp) : InitOk P w K mg base (k + 1) C x sp := by
  obtain ⟨f, fd, F, hm, hb⟩ := D.ex
  obtain ⟨mc, f', h1, h2, h3, h4⟩ := c.rd
  have : f' = f := by
    have h5 := hm.at_
    rw [h4] at h5
    exact Value.ref.inj (Option.some.inj (Option.some.inj h5))
  subst this
  exact ⟨f', fd, ps, mc, F.ok S len (fun cdv A outer s H vs Q E hr h => b f' cdv A outer s H vs Q E hr h), F.kp, hb, c.mg, ⟨h1, h2⟩, ⟨h3, rfl⟩⟩
end
section
variable {X : Cx} {k : Nat} {x : Str} {C : Addr} {sp : Sp} {p1 p2 pos : Pos} {e : Expr} {es : List Expr} {t : TA}
theorem pe_cinit {pl : Sem Bool} (G : InitOk X.prog X.w X.K X.mg X.base k C x sp) (hr : Room k X.A) (ha : PA X (e :: es) t) (hg : Gl X x := by rfl) (hdb : (x == ("__debug__" : Str)) = false := by decide)
    (hst : starEach (e :: es) X.env = (false, eval e X.env) :: starEach es X.env := by rfl) (hpl : (backTo pos (starEach es X.env)).any (·.1) = false := by rfl)
    (ht : eval (.Call (.Attribute (.Name x p1) "__init__" p2) (e :: es) [] pos) X.env = (do
      let ov ← eval (.Name x p1) X.env
      standAt p2.atName
      let (f, first) ← holding [ov] (getMethod ov "__init__" pl)
      callWith pos f first (backTo pos (starEach (e :: es) X.env)) (backToKw pos (keywordEach [] X.env))) := by rfl) :
    PE X (.Call (.Attribute (.Name x p1) "__init__" p2) (e :: es) [] pos) (tCall sp [] E0 t) := by
  obtain ⟨f, fd, ps, mc, F, hk, hb, hm, r, c⟩ := G.ex
  refine ⟨fun pins s σ H Q I h => ?_⟩
  refine PySem.W.methodCall_KW (ld_glob I hg hm ?_ hdb) ht
  refine PySem.W.method_cls (I.tok _).kIn r.ga (ClX.getcval_ok (I.tok _) r c fun s2 I2 => ?_)
  refine PySem.W.callWith_K (first := []) (h₀ := X.base) I2.ok.mod.kin hk (thn (ha.run pos pins s2 σ H _ I2 h) fun us s3 ⟨vs, H2, I3, rv, q2⟩ => ⟨I3.kIn, ?_⟩) hst hpl
  exact run_fn F hr hb .nil pass0 I3 rv q2
end
def spBase : Sp := fun vs H Q _ => ∃ (a C : Addr) (w : V) (K : PySem.W.Frag), vs = [.ref a, w] ∧ OexC K C ∧ H a = some (exo a C none) ∧ Q .non H
def spBaseK (K : PySem.W.Frag) : Sp := fun vs H Q _ => ∃ (a C : Addr) (w : V), vs = [.ref a, w] ∧ OexC K C ∧ H a = some (exo a C none) ∧ Q .non H
def spErr (C : Addr) (names : List Str) : Sp := fun vs H Q _ => ∃ (a : Addr) (ys : List V), vs = .ref a :: ys ∧ ys.length = names.length ∧ H a = some (exo a C none) ∧
  ∀ dx, H dx = none → dx ≠ a → Q .non (upd (upd H dx (exd dx (names.zip ys).reverse)) a (exo a C (some dx)))
theorem upd_swap {H : Hp} {a b : Addr} {o o1 o2 : HO} (n : b ≠ a) : upd (upd (upd H b o1) a o) b o2 = upd (upd H b o2) a o := by
  funext c
  by_cases h1 : c = b
  · subst h1
    rw [upd_same, upd_ne n, upd_same]
  · rw [upd_ne h1]
    by_cases h2 : c = a
    · subst h2
      rw [upd_same, upd_same]
    · rw [upd_ne h2, upd_ne h2, upd_ne h1, upd_ne h1]
theorem errMk {C : Addr} {names : List Str} {vs : List V} {H1 : Hp} {Q : XK} (hl : vs.length = names.length) (hn : names.length ≤ 10) (q : ∀ d, H1 d = none → Q (.ref C) (some d) (upd H1 d (.xd (names.zip vs).reverse))) :
    vs.length ≤ 1000 ∧ ∀ a, H1 a = none → spErr C names (.ref a :: (vs ++ [])) (upd H1 a (exo a C none))
      (fun v H2 => v = .non ∧ ∃ (d : Addr) (fs : List (Str × V)), H2 a = some (exo a C (some d)) ∧ H2 d = some (exd d fs) ∧ H1 d = none ∧ Q (.ref C) (some d) (upd (del H2 a) d (.xd fs))) (fun _ _ _ => False) := by
  refine ⟨by omega, fun a ha => ⟨a, vs, by rw [List.append_nil], hl, upd_same, fun dx hdx ndx => ⟨rfl, dx, _, upd_same, by rw [upd_ne ndx, upd_same], by rw [upd_ne ndx] at hdx; exact hdx, ?_⟩⟩⟩
  have hd : H1 dx = none := by rw [upd_ne ndx] at hdx; exact hdx
  have e : upd (del (upd (upd (upd H1 a (exo a C none)) dx (exd dx (names.zip vs).reverse)) a (exo a C (some dx))) a) dx (.xd (names.zip vs).reverse) = upd H1 dx (.xd (names.zip vs).reverse) := by
    funext c
    by_cases h1 : c = dx
    · subst h1
      rw [upd_same, upd_same]
    · rw [upd_ne h1, upd_ne h1]
      by_cases h2 : c = a
      · subst h2
        rw [del_same, ha]
      · rw [del_ne h2, upd_ne h2, upd_ne h1, upd_ne h2]
  rw [e]
  exact q dx hd
structure CallX (P : Program) (w : World) (K : PySem.W.Frag) (mg : Str → Option Value) (base : Heap) (k : Nat) (x : Str) (sp : Sp) : Prop where
  ex : ∃ f fd ps, FnOk P w K mg base (L2.CX P w) k f fd ps sp ∧ mg x = some (.ref f) ∧ PySem.W.keepIn K (.ref f) = true ∧ Binds K fd ps []
structure MethX (P : Program) (w : World) (K : PySem.W.Frag) (mg : Str → Option Value) (base : Heap) (k : Nat) (C : Addr) (m : Str) (sp : Sp) : Prop where
  ex : ∃ f fd ps, FnOk P w K mg base (L2.CX P w) k f fd ps sp ∧ Meth K C m f ∧ Binds K fd ps [] ∧ Cls K C
structure MakeX (P : Program) (w : World) (K : PySem.W.Frag) (mg : Str → Option Value) (base : Heap) (k : Nat) (C : Addr) (x : Str) (sp : Sp) : Prop where
  ex : ∃ f fd ps, FnOk P w K mg base (L2.CX P w) k f fd ps sp ∧ Mk K C f ∧ Binds K fd ps [] ∧ mg x = some (.ref C)
section
variable {P : Program} {w : World} {K : PySem.W.Frag} {mg : Str → Option Value} {base : Heap} {k : Nat} {x m q : Str} {C : Addr} {sp : Sp} {N ps : List Str} {st : Stmt}
def BodyX (P : Program) (w : World) (K : PySem.W.Frag) (mg : Str → Option Value) (base : Heap) (k : Nat) (N : List Str) (q : Str) (st : Stmt) (sp : Sp) : Prop :=
  ∀ (f : Addr) (cdv : Value) (A : Around) (outer : List Env) (s : Shared) (H : Hp) (vs : List V) (Q : VK) (E : XK), Room k (A.deeper (envOfC q (defScope st) s.heap.objs.size f cdv)) → sp vs H Q E →
    ∃ t, PSs (cxOf (L2.CX P w) P w K mg base N q (defScope st) f cdv A outer s H E) (defBody st) t ∧ t { nx := fun _ H' => Q .non H', rt := Q } (start N vs) H
theorem DefAt.okX (D : DefAt K mg x st ps) (S : FnScope N ps (defScope st)) (len : ∀ vs H Q E, sp vs H Q E → vs.length = ps.length) (b : BodyX P w K mg base k N x st sp) : CallX P w K mg base (k + 1) x sp := by
  obtain ⟨f, fd, F, hm, hb⟩ := D.ex
  exact ⟨f, fd, ps, F.okX S len (fun cdv A outer s H vs Q E hr h => b f cdv A outer s H vs Q E hr h), hm, F.kp, hb⟩
theorem MethAt.okX (D : MethAt K C m q st ps) (c : Cls K C) (S : FnScope N ps (defScope st)) (len : ∀ vs H Q E, sp vs H Q E → vs.length = ps.length) (b : BodyX P w K mg base k N q st sp) : MethX P w K mg base (k + 1) C m sp := by
  obtain ⟨f, fd, F, hm, hb⟩ := D.ex
  exact ⟨f, fd, ps, F.okX S len (fun cdv A outer s H vs Q E hr h => b f cdv A outer s H vs Q E hr h), hm, hb, c⟩
theorem MethAt.makeX (D : MethAt K C "__init__" q st ps) (c : ClassAt K mg C x) (S : FnScope N ps (defScope st)) (len : ∀ vs H Q E, sp vs H Q E → vs.length = ps.length) (b : BodyX P w K mg base k N q st sp) : MakeX P w K mg base (k + 1) C x sp := by
  obtain ⟨f, fd, F, hm, hb⟩ := D.ex
  exact ⟨f, fd, ps, F.okX S len (fun cdv A outer s H vs Q E hr h => b f cdv A outer s H vs Q E hr h), ⟨c.makes, hm.at_, hm.fn, c.kp⟩, hb, c.mg⟩
end
section
variable {X : Cx} {k : Nat} {x m : Str} {C : Addr} {sp : Sp} {p pos apos : Pos} {e o : Expr} {es : List Expr} {t : TA} {ta ti : TE} {W : WX} {E : L2.St → XK}
theorem pe_callX (G : CallX X.prog X.w X.K X.mg X.base k x sp) (hr : Room k X.A) (tk : Takes X W) (ha : PA X (e :: es) t) (hg : Gl X x := by rfl) (hdb : (x == ("__debug__" : Str)) = false := by decide)
    (he : starEach (e :: es) X.env = (false, eval e X.env) :: starEach es X.env := by rfl) (hpl : (backTo pos (starEach es X.env)).any (·.1) = false := by rfl) : PE X (.Call (.Name x p) (e :: es) [] pos) (tCallS sp (WE W) t) := by
  obtain ⟨f, fd, ps, F, hm, hk, hb⟩ := G.ex
  exact pe_callS F hr hg hm hk hb (fun σ => passAt tk σ) ha hdb he hpl
def tMethX (C : Addr) (m : Str) (sp : Sp) (E : L2.St → XK) (ta : TE) (t : TA) : TE := fun σ H Q => ta σ H fun x H1 => ∃ a dx fs, x = .ref a ∧ H1 a = some (.ins C dx fs) ∧ fs.lookup m = none ∧ t σ H1 fun vs H2 => sp (x :: vs) H2 Q (E σ)
theorem pe_methX {pl : Sem Bool} (he : PE X o ta) (G : MethX X.prog X.w X.K X.mg X.base k C m sp) (hr : Room k X.A) (tk : Takes X W) (ha : PA X (e :: es) t)
    (hst : starEach (e :: es) X.env = (false, eval e X.env) :: starEach es X.env := by rfl) (hpl : (backTo pos (starEach es X.env)).any (·.1) = false := by rfl)
    (ht : eval (.Call (.Attribute o m apos) (e :: es) [] pos) X.env = (do
      let ov ← eval o X.env
      standAt apos.atName
      let (f, first) ← holding [ov] (getMethod ov m pl)
      callWith pos f first (backTo pos (starEach (e :: es) X.env)) (backToKw pos (keywordEach [] X.env))) := by rfl) :
    PE X (.Call (.Attribute o m apos) (e :: es) [] pos) (tMethX C m sp (WE W) ta t) := by
  obtain ⟨f, fd, ps, F, hm, hb, c⟩ := G.ex
  refine ⟨fun pins s σ H Q I h => ?_⟩
  refine PySem.W.methodCall_KW (pl := pl) (thn (he.run pins s σ H _ I h) fun u s1 ⟨x, H1, I1, rx, a, dx, fs, ex, ea, l, q⟩ => ?_) ht
  subst ex
  obtain rfl : u = Value.ref a := rx
  refine getmeth_ok I1 ea c hm l ?_
  refine PySem.W.callWith_K (first := [.ref a]) (h₀ := X.base) I.ok.mod.kin hm.kp (thn (ha.run pos pins s1 σ H1 _ I1 q) fun us s2 ⟨vs, H2, I2, r, q2⟩ => ⟨I2.kIn, ?_⟩) hst hpl
  exact run_fnS (us := .ref a :: us) (vs := .ref a :: vs) F hr hb (passAt tk σ) I2 (.cons rfl r) q2
theorem run_makeS {f : Addr} {fd : FuncData} {ps : List Str} {CX : CXT} {pins : List (Addr × Obj)} {σ : L2.St} {H : Hp} {s : Shared} {Q : VK} {us : List Value} {vs : List V} (M : Mk X.K C f) (F : FnOk X.prog X.w X.K X.mg X.base CX k f fd ps sp) (hr : Room (k + 1) X.A) (hb : Binds X.K fd ps [])
    (hx : PassesAt CX X σ (E σ)) (I : Inv X pins σ H s) (r : Vals vs us)
    (h : ∀ x dx, H x = none → H dx = none → dx ≠ x → sp (.ref x :: vs) (upd (upd H dx (.own x)) x (.ins C dx [])) (fun v H2 => v = .non ∧ Q (.ref x) H2) (E σ)) :
    wpAny (model X.prog X.w) X.A (call (.ref C) us) (EP X pins σ Q) X.xe s := by
  have hq := h (s.heap.objs.size + 1) s.heap.objs.size (I.hok.fresh (Nat.le_succ _)) (I.hok.fresh (Nat.le_refl _)) (Nat.ne_of_lt (Nat.lt_succ_self _))
  have I2 := Inv.made (C := C) I
  have r2 : Vals (V.ref (s.heap.objs.size + 1) :: vs) (Value.ref (s.heap.objs.size + 1) :: us) := .cons rfl r
  have hl : (Value.ref (s.heap.objs.size + 1) :: us).length = ps.length := by
    have e := r2.length
    rw [F.len _ _ _ _ hq] at e
    exact e.symm
  have hb2 := hb _ (Value.ref (s.heap.objs.size + 1) :: us) I2.kIn (by rw [List.append_nil]; exact hl)
  rw [List.append_nil] at hb2
  refine wpAny_call (make_map (f := f) I.kIn M.makes M.init (beq_iff_eq.mp M.fn) (codeAny_mono (F.run _ X.stack _ _ ⟨Value.ref (s.heap.objs.size + 1) :: us, []⟩ (Value.ref (s.heap.objs.size + 1) :: us) _ _ (E σ) (hr.make C us [])
    (I2.env0.make C us []) hb2 r2 hq) fun r s' hq' => ?_))
  cases r with
  | error e => exact hx pins _ _ e s' I2 hq'
  | ok fl =>
    cases fl with
    | ret u =>
      obtain ⟨v, H', I3, rv, ev, q3⟩ := I2.after hq'
      subst ev
      exact ⟨rv, ⟨V.ref (s.heap.objs.size + 1), H', I3, rfl, q3⟩⟩
    | next => exact False.elim hq'
    | brk => exact False.elim hq'
    | cont => exact False.elim hq'
def tMakeX (C : Addr) (sp : Sp) (E : L2.St → XK) (t : TA) : TE := fun σ H Q => t σ H fun vs H1 => ∀ x dx, H1 x = none → H1 dx = none → dx ≠ x →
  sp (.ref x :: vs) (upd (upd H1 dx (.own x)) x (.ins C dx [])) (fun v H2 => v = .non ∧ Q (.ref x) H2) (E σ)
theorem pe_makeX (G : MakeX X.prog X.w X.K X.mg X.base k C x sp) (hr : Room (k + 1) X.A) (tk : Takes X W) (ha : PA X (e :: es) t) (hg : Gl X x := by rfl) (hdb : (x == ("__debug__" : Str)) = false := by decide)
    (he : starEach (e :: es) X.env = (false, eval e X.env) :: starEach es X.env := by rfl) (hpl : (backTo pos (starEach es X.env)).any (·.1) = false := by rfl) : PE X (.Call (.Name x p) (e :: es) [] pos) (tMakeX C sp (WE W) t) := by
  obtain ⟨f, fd, ps, F, M, hb, hm⟩ := G.ex
  refine ⟨fun pins s σ H Q I h => ?_⟩
  refine wpAny_Call_Name_kw (ld_glob I hg hm ?_ hdb)
  refine PySem.W.callWith_K (h₀ := X.base) I.ok.mod.kin M.kp (thn (ha.run pos pins s σ H _ I h) fun us s1 ⟨vs, H1, I1, r, q⟩ => ⟨I1.kIn, ?_⟩) he hpl
  exact run_makeS M F hr hb (passAt tk σ) I1 r q
def gSubX (C : Addr) (sp : Sp) (E : L2.St → XK) (to ti : TE) : TG := fun v σ H Q => to σ H fun o H1 => ti σ H1 fun i H2 => ∃ a dx fs, o = .ref a ∧ H2 a = some (.ins C dx fs) ∧ sp [.ref a, i, v] H2 (fun _ H3 => Q σ H3) (E σ)
theorem pg_subX {i : Expr} (ho : PE X o ta) (hi : PE X i ti) (G : MethX X.prog X.w X.K X.mg X.base k C "__setitem__" sp) (hr : Room k X.A) (hq : PySem.W.noSeq X.K C = true) (tk : Takes X W)
    (ha : ∀ v, assign (.Subscript o i pos) X.env v = (do
      let ov ← holding [v] (eval o X.env)
      let iv ← holding [v, ov] (eval i X.env)
      standAt pos
      holding [v, ov, iv] (setItem ov iv v)
      release [v, ov, iv] []) := by intro _; rfl) : PG X (.Subscript o i pos) (gSubX C sp (WE W) ta ti) := by
  obtain ⟨f, fd, ps, F, hm, hb, c⟩ := G.ex
  refine ⟨fun pins s σ H v u Q I r h => ?_⟩
  rw [ha]
  refine wpAny_bind (wpAny_holding (thn (ho.run pins s σ H _ I h) fun ov s1 ⟨x, H1, I1, r1, q1⟩ => ?_))
  refine wpAny_bind (wpAny_holding (thn (hi.run pins s1 σ H1 _ I1 q1) fun iv s2 ⟨y, H2, I2, r2, q2⟩ => ?_))
  obtain ⟨a, dx, fs, rfl, hp, q2⟩ := q2
  obtain rfl : ov = Value.ref a := r1
  have I2t := I2.tok s2.toks
  refine wpAny_bind (wpAny_standAt (wpAny_bind (wpAny_holding ?_)))
  obtain ⟨m, fr⟩ := I2.fr
  obtain ⟨mA, O, _⟩ := ins_get I2.hok hp
  obtain ⟨od, J, _⟩ := O.look
  refine PySem.W.ksp_setItem fr I2.ok.mod.kin J hq hm.at_ hm.fn (thn (run_fnS (us := [.ref a, iv, u]) (vs := [.ref a, y, v]) F hr hb (passAt tk σ) I2 (.cons rfl (.cons r2 (.cons r .nil))) q2) fun rr s3 ⟨z, H3, I3, r3, q3⟩ => ?_)
  exact wpAny_release ⟨σ, H3, I3, q3⟩
def tIxX (C : Addr) (sp : Sp) (E : L2.St → XK) (ta tb : TE) : TE := fun σ H Q => ta σ H fun x H1 => tb σ H1 fun y H2 => ∃ a dx fs, x = .ref a ∧ H2 a = some (.ins C dx fs) ∧ sp [.ref a, y] H2 Q (E σ)
end
end My
namespace My
open PySem PySem.Spec PyProof.Rows L2
section
variable {X : Cx} {k : Nat} {C : Addr} {sp : Sp} {q : Str} {st : Stmt} {ps : List Str} {pos : Pos} {o i : Expr} {ta ti : TE} {W : WX}
theorem pe_ixX {s2 : Stmt} (ho : PE X o ta) (hi : PE X i ti) (G : MethX X.prog X.w X.K X.mg X.base k C "__getitem__" sp) (D : MethAt X.K C "__getitem__" q st ps) (hr : Room (k + 1) X.A) (tk : Takes X W)
    (hs : ∀ ov iv, subscripted i true ov iv = runValue (.builtin "lifetime.subscript" ⟨[ov, iv], []⟩) := by intro _ _; rfl) : PE X (.Subscript o i pos) (tIxX C sp (WE W) ta ti) := by
  obtain ⟨f, fd, ps2, F, hm, hb, c⟩ := G.ex
  refine ⟨fun pins s σ H Q I h => ?_⟩
  refine Subscript_ (thn (ho.run pins s σ H _ I h) fun ov s1 ⟨x, H1, I1, r1, q1⟩ => thn (hi.run pins s1 σ H1 _ I1 q1) fun iv s2 ⟨y, H2, I2, r2, q2⟩ => ?_)
  obtain ⟨a, dx, fs, rfl, hp, q2⟩ := q2
  obtain rfl : ov = Value.ref a := r1
  obtain ⟨m, fr⟩ := I2.fr
  obtain ⟨mA, O, _⟩ := ins_get I2.hok hp
  obtain ⟨od, J, _⟩ := O.look
  have hl : ([.ref a, iv] : List Value).length = ps2.length := by
    have e : Vals [V.ref a, y] [Value.ref a, iv] := .cons rfl (.cons r2 .nil)
    rw [← e.length]
    exact F.len _ _ _ _ q2
  have hbt := hb s2 [.ref a, iv] I2.kIn (by simpa using hl)
  rw [List.append_nil] at hbt
  refine PySem.W.sub_K fr I2.ok.mod.kin J hm.at_ (D.fnIn hm) hm.fn ?_ (hs _ _)
  refine wpAny_call (codeAny_mono (F.run X.A.in1 X.stack s2 H2 ⟨[.ref a, iv], []⟩ [.ref a, iv] [.ref a, y] Q (WE W σ) hr.in1 I2.env0.in1 hbt (.cons rfl (.cons r2 .nil)) q2) fun r s' hq => ?_)
  cases r with
  | error e => exact passAt tk σ pins _ _ e s' I2 hq
  | ok fl =>
    cases fl with
    | ret u => exact I2.after hq
    | next => exact False.elim hq
    | brk => exact False.elim hq
    | cont => exact False.elim hq
end
end My
namespace My
open PySem PySem.Spec PyProof.Rows L2
structure ErrOk (P : Program) (w : World) (K : PySem.W.Frag) (mg : Str → Option Value) (base : Heap) (k : Nat) (C : Addr) (x : Str) (names : List Str) : Prop where
  ex : ∃ f fd ps, FnOk P w K mg base CX0 k f fd ps (spErr C names) ∧ PySem.W.findIn K (.ref C) "__init__" = some (some (.ref f)) ∧ PySem.W.typeIn K (.ref f) = some (.type "function") ∧ Binds K fd ps [] ∧ ErrAt K mg C x names
theorem MethAt.err {P : Program} {w : World} {K : PySem.W.Frag} {mg : Str → Option Value} {base : Heap} {k : Nat} {x q : Str} {C : Addr} {N ps names : List Str} {st : Stmt} (D : MethAt K C "__init__" q st ps) (c : ErrAt K mg C x names) (S : FnScope N ps (defScope st))
    (len : ∀ vs H Q E, spErr C names vs H Q E → vs.length = ps.length) (b : BodyOk P w K mg base k N q st (spErr C names)) : ErrOk P w K mg base (k + 1) C x names := by
  obtain ⟨f, fd, F, hm, hb⟩ := D.ex
  exact ⟨f, fd, ps, F.ok S len (fun cdv A outer s H vs Q E hr h => b f cdv A outer s H vs Q E hr h), hm.at_, beq_iff_eq.mp hm.fn, hb, c⟩
section
variable {X : Cx} {k : Nat} {x : Str} {C : Addr} {names : List Str} {p pos pos2 : Pos} {e : Expr} {es : List Expr} {t : TA} {W : WX}
def tRaiseE (C : Addr) (names : List Str) (W : WX) (t : TA) : TS := fun _ σ H => tMkO C (spErr C names) [] t σ H fun cls d H' => W cls d σ H'
theorem ps_raiseE (hc : X.calm = true) (G : ErrOk X.prog X.w X.K X.mg X.base k C x names) (hr : Room (k + 1) X.A) (tk : Takes X W) (ha : PA X (e :: es) t) (hg : Gl X x := by rfl) (hdb : (x == ("__debug__" : Str)) = false := by decide)
    (he : starEach (e :: es) X.env = (false, eval e X.env) :: starEach es X.env := by rfl) (hpl : (backTo pos (starEach es X.env)).any (·.1) = false := by rfl) :
    PS X (.Raise (some (.Call (.Name x p) (e :: es) [] pos)) none pos2) (tRaiseE C names W t) := by
  obtain ⟨f, fd, ps, F, iC, tI, hb, c⟩ := G.ex
  exact ps_raise hc tk (pmk_oex c.ox iC tI F hr hb .nil pass0 hg c.mg ha hdb he hpl)
end
end My
namespace My
open PySem PySem.Spec PyProof.Rows L2
section
variable {K : PySem.W.Frag} {h : Heap} {mg : Str → Option Value} {C f N : Addr} {x nm q : Str} {bs bm : List Value} {sn : List Str} {sub : List Value} {ab : Bool} {col : Option Bool} {dd : Option Addr} {m0 m1 m2 m3 m5 : Option Value}
theorem baseAt (X : K.In h) (G : h.Ns mainGlobals mg) (a : PySem.W.nsIn K mainGlobals x = some (some (.ref C))) (rd : PySem.W.readsIn K C (.type "type") = true) (ga : PySem.W.specialIn K (.ref C) "__getattribute__" = some (some (.builtin "type.__getattribute__")))
    (fi : PySem.W.findIn K (.ref C) "__init__" = some (some (.ref f))) (fc : PySem.W.findCls K (.ref C) (.type "type") "__init__" = some (.val (.ref f))) : BaseAt K mg C x := ⟨PySem.W.mg_of X G a, _, f, rd, ga, fc, fi⟩
theorem errAt {names : List Str} (X : K.In h) (G : h.Ns mainGlobals mg) (a : PySem.W.nsIn K mainGlobals x = some (some (.ref C))) (l : K.lookup C = some (excClassObj nm q C N bs bm true sn sub ab col dd m0 m1 m2 m3 m5 "ValueError.__new__")) (b : PySem.HandSPX.refsVE bm = true)
    (sa : PySem.W.findIn K (.ref C) "__setattr__" = some (some (.builtin "object.__setattr__"))) (eC : PySem.W.subIn K (.ref C) (.type "BaseException") = some true) (tC : PySem.W.typeIn K (.ref C) = some (.type "type")) (kC : PySem.W.keepIn K (.ref C) = true)
    (ga : PySem.W.findIn K (.ref C) "__getattribute__" = some (some (.builtin "BaseException.__getattribute__"))) (gg : PySem.W.findIn K (.ref C) "__getattr__" = some none) (hC : PySem.W.hasDictIn K C = true) (no : ∀ f ∈ names, PySem.W.findIn K (.ref C) f = some none) : ErrAt K mg C x names :=
  ⟨PySem.W.mg_of X G a, ⟨⟨nm, q, N, bs, bm, sn, sub, ab, col, dd, m0, m1, m2, m3, m5, l, b⟩, sa, eC, tC, kC⟩, ⟨ga, gg, eC, hC⟩, no⟩
theorem no0 : ∀ f ∈ ([] : List Str), PySem.W.findIn K (.ref C) f = some none := by simp
theorem noC {g : Str} {l : List Str} (h : PySem.W.findIn K (.ref C) g = some none) (r : ∀ f ∈ l, PySem.W.findIn K (.ref C) f = some none) : ∀ f ∈ g :: l, PySem.W.findIn K (.ref C) f = some none := fun f hf => by
  rcases List.mem_cons.mp hf with rfl | hf
  · exact h
  · exact r f hf
theorem ErrAt.exm {names : List Str} {cls : Value} {b : Bool} (c : ErrAt K mg C x names) (h : PySem.W.subIn K cls (.ref C) = some b) : PySem.W.exmOne K cls (.ref C) = some b := PySem.W.exm_ref c.ox.exC c.xf.hdC c.ox.tyC h
end
end My
namespace My
open PySem PySem.Spec PyProof.Rows L2
theorem xd1 {f : Str} {y : V} {l : List (Str × V)} : ((f, y) :: l).lookup f = some y := by rw [lookup_put, if_pos rfl]
theorem xdS {f g : Str} {y : V} {l : List (Str × V)} {o : Option V} (h : ¬ g = f) (r : l.lookup g = o) : ((f, y) :: l).lookup g = o := by rw [lookup_put, if_neg h, r]
end My
namespace My
open PySem L2
theorem Fr1.new {a p : Addr} {H H' : Hp} {o : HO} {n : Nat} (f : Fr1 a H H') (S : StAt H' a n) (h : H' p = none) : Fr1 a H (L2.upd H' p o) := f.upd (f.free (S.ne h).symm h)
theorem cut_drop (xs : List V) (k : Nat) (h : k ≤ xs.length) : cutV xs (some (k : Int)) none = xs.drop k := by
  unfold cutV
  rw [show HT.sIx xs.length 0 (some (k : Int)) = min k xs.length from HT.sIx_nat _ _ k, HT.sIx_none, Nat.min_eq_left h]
  exact List.take_of_length_le (by rw [List.length_drop]; exact Nat.le_refl _)
end My
namespace My
open PySem L2
theorem vSome {kvs : List (Key × V)} {k : Key} (h : k ∈ kvs.map (·.1)) : ∃ v, valV kvs k = some v := by
  have h1 := valV_any k kvs
  obtain ⟨q, hq, rfl⟩ := List.mem_map.mp h
  have h2 : (kvs.any fun kv => decide (kv.1 = q.1)) = true := List.any_eq_true.mpr ⟨q, hq, decide_eq_true rfl⟩
  rw [h2] at h1
  exact Option.isSome_iff_exists.mp h1.symm
theorem vPair {kvs : List (Key × V)} {k : Key} {v : V} (h : valV kvs k = some v) : (k, v) ∈ kvs := by
  unfold valV at h
  obtain ⟨q, hq, rfl⟩ := Option.map_eq_some_iff.mp h
  have h2 : q.1 = k := of_decide_eq_true (List.find?_some (p := fun kv : Key × V => decide (kv.1 = k)) hq)
  rw [← h2]
  exact List.mem_of_find?_eq_some hq
theorem vNone {kvs : List (Key × V)} {k : Key} (h : k ∉ kvs.map (·.1)) : valV kvs k = none := by
  cases c : valV kvs k with
  | none => rfl
  | some v => exact absurd (valV_in c) h
theorem vMem {kvs : List (Key × V)} (nd : (kvs.map (·.1)).Nodup) {q : Key × V} (h : q ∈ kvs) : valV kvs q.1 = some q.2 := by
  obtain ⟨i, hi, e⟩ := List.getElem_of_mem h
  exact valV_at nd (i := i) (by rw [List.getElem?_eq_getElem hi, e])
theorem putK_keys (a : List (Key × V)) (k : Key) (v : V) : (putK a k v).map (·.1) = if ((a.map (·.1)).any fun x => decide (x = k)) = true then a.map (·.1) else a.map (·.1) ++ [k] := by
  by_cases h : k ∈ a.map (·.1)
  · rw [if_pos (List.any_eq_true.mpr ⟨k, h, decide_eq_true rfl⟩)]
    obtain ⟨u, hu⟩ := vSome h
    unfold putK
    rw [valV_any, hu]
    show ((a.map fun kv => if kv.1 = k then (kv.1, v) else kv).map (·.1)) = _
    rw [List.map_map]
    have : ((·.1) ∘ fun kv : Key × V => if kv.1 = k then (kv.1, v) else kv) = (·.1) := by
      funext kv
      show (if kv.1 = k then (kv.1, v) else kv).1 = kv.1
      split <;> rfl
    rw [this]
  · rw [if_neg (fun z => by
      obtain ⟨x, hx, e⟩ := List.any_eq_true.mp z
      rw [of_decide_eq_true e] at hx
      exact h hx), putK_new _ (vNone h), List.map_append]
    rfl
theorem dropK_keys : ∀ (a : List (Key × V)) (k : Key), (dropK a k).map (·.1) = (a.map (·.1)).filter fun x => decide (x ≠ k)
  | [], _ => rfl
  | p :: r, k => by
    by_cases e : p.1 = k
    · rw [dropK_pos e, dropK_keys r k, List.map_cons, List.filter_cons, if_neg (by simp [e])]
    · rw [dropK_neg e, List.map_cons, dropK_keys r k, List.map_cons, List.filter_cons, if_pos (by simp [e])]
theorem vDrop : ∀ (a : List (Key × V)) (k j : Key), valV (dropK a k) j = if j = k then none else valV a j
  | [], k, j => by
    show valV [] j = _
    rw [valV_nil]
    split <;> rfl
  | p :: r, k, j => by
    by_cases e : p.1 = k
    · rw [dropK_pos e, vDrop r k j]
      by_cases h : j = k
      · rw [if_pos h, if_pos h]
      · rw [if_neg h, if_neg h, valV_neg (fun z => h (z.symm.trans e))]
    · rw [dropK_neg e]
      by_cases h : p.1 = j
      · rw [valV_pos h, if_neg (fun z => e (h.trans z)), valV_pos h]
      · rw [valV_neg h, vDrop r k j, valV_neg h]
structure RowsEq (H : Hp) (a b : List (Key × V)) : Prop where
  keys : b.map (·.1) = a.map (·.1)
  row : ∀ k v, valV a k = some v → ∃ v' lab cs, valV b k = some v' ∧ Td H v (rowD lab cs) ∧ Td H v' (rowD lab cs)
section
variable {H H' : Hp} {a b : List (Key × V)}
theorem RowsEq.mono (h : RowsEq H a b) (kt : KT H H') : RowsEq H' a b := ⟨h.keys, fun k v hv => by
  obtain ⟨v', lab, cs, h1, h2, h3⟩ := h.row k v hv
  exact ⟨v', lab, cs, h1, h2.mono kt, h3.mono kt⟩⟩
theorem RowsEq.nil : RowsEq H [] [] := ⟨rfl, fun k v h => by cases h⟩
theorem RowsEq.len (h : RowsEq H a b) : b.length = a.length := by
  have := congrArg List.length h.keys
  rw [List.length_map, List.length_map] at this
  exact this
theorem RowsEq.some (h : RowsEq H a b) (k : Key) : (valV b k).isSome = (valV a k).isSome := by
  cases c : valV a k with
  | some v =>
    obtain ⟨v', lab, cs, h1, _⟩ := h.row k v c
    rw [h1]
    rfl
  | none =>
    have : k ∉ a.map (·.1) := fun m => by
      obtain ⟨v, hv⟩ := vSome m
      rw [c] at hv
      cases hv
    rw [← h.keys] at this
    rw [vNone this]
theorem RowsEq.put {k : Key} {v v' : V} {lab : Int} {cs : List (Option Int)} (h : RowsEq H a b) (h1 : Td H v (rowD lab cs)) (h2 : Td H v' (rowD lab cs)) : RowsEq H (putK a k v) (putK b k v') := by
  refine ⟨by rw [putK_keys, putK_keys, h.keys], fun j u hu => ?_⟩
  rw [valV_put] at hu
  rw [valV_put]
  by_cases e : j = k
  · rw [if_pos e] at hu ⊢
    cases hu
    exact ⟨_, lab, cs, rfl, h1, h2⟩
  · rw [if_neg e] at hu ⊢
    exact h.row j u hu
theorem RowsEq.drop {k : Key} (h : RowsEq H a b) : RowsEq H (dropK a k) (dropK b k) := by
  refine ⟨by rw [dropK_keys, dropK_keys, h.keys], fun j u hu => ?_⟩
  rw [vDrop] at hu ⊢
  by_cases e : j = k
  · rw [if_pos e] at hu
    cases hu
  · rw [if_neg e] at hu ⊢
    exact h.row j u hu
end
structure Side2 (CD CS : Addr) (H : Hp) (pl : Plan) (s : Side) (ct ch : List (List (Key × V))) : Prop where
  db : DbAt CD CS H s.p pl s.sp s.de s.dr s.ds ct
  hd : HeldAt H s.dh pl s.hs ch
  nd : s.dicts.Nodup
  ap : ∀ d ∈ s.dicts, d ∉ s.fix
  eq : ∀ (i : Nat) (a b : List (Key × V)), ct[i]? = some a → ch[i]? = some b → RowsEq H a b
section
variable {CD CS : Addr} {H H' : Hp} {pl : Plan} {s : Side} {ct ch : List (List (Key × V))}
theorem Side2.same (S : Side2 CD CS H pl s ct ch) (e : Same H H') : Side2 CD CS H' pl s ct ch := ⟨S.db.same e, S.hd.same e, S.nd, S.ap, fun i a b h1 h2 => (S.eq i a b h1 h2).mono (KT.of e)⟩
theorem Side2.frf {F : List Addr} (S : Side2 CD CS H pl s ct ch) (e : FrF F H H') (nF : ∀ c ∈ F, ∀ xs, H c ≠ some (.tup xs)) (ap : ∀ c ∈ F, c ∉ s.fix ∧ c ∉ s.dicts) : Side2 CD CS H' pl s ct ch := by
  have k : ∀ G : List Addr, (∀ c ∈ G, c ∈ s.fix ∨ c ∈ s.dicts) → Kept G H H' := fun G hG => e.kept (fun c hc hF => by
    obtain ⟨a1, a2⟩ := ap c hF
    rcases hG c hc with h | h
    · exact a1 h
    · exact a2 h) nF
  refine ⟨S.db.keep (k _ fun c hc => ?_), S.hd.keep (k _ fun c hc => ?_), S.nd, S.ap, fun i a b h1 h2 => (S.eq i a b h1 h2).mono (k [] (by simp)).kt⟩
  · simp only [foot, List.mem_cons] at hc
    simp only [Side.fix, Side.dicts, List.mem_cons, List.mem_append]
    rcases hc with h | h | h | h | h <;> simp [h]
  · simp only [List.mem_cons] at hc
    simp only [Side.fix, Side.dicts, List.mem_cons, List.mem_append]
    rcases hc with h | h <;> simp [h]
theorem Side2.dict (S : Side2 CD CS H pl s ct ch) {c : Addr} (hc : c ∈ s.dicts) : ∃ kvs, H c = some (.dK kvs) := by
  rcases List.mem_append.mp hc with h | h
  · obtain ⟨i, hi, ei⟩ := List.getElem_of_mem h
    have hi2 : i < ct.length := by rw [S.db.cl, ← S.db.dl]; exact hi
    exact ⟨_, S.db.at_ i c _ (by rw [List.getElem?_eq_getElem hi, ei]) (List.getElem?_eq_getElem hi2)⟩
  · obtain ⟨i, hi, ei⟩ := List.getElem_of_mem h
    have hi2 : i < ch.length := by rw [S.hd.cl, ← S.hd.dl]; exact hi
    exact ⟨_, S.hd.at_ i c _ (by rw [List.getElem?_eq_getElem hi, ei]) (List.getElem?_eq_getElem hi2)⟩
theorem Side2.fr1 {a : Addr} {xs : List V} (S : Side2 CD CS H pl s ct ch) (h : H a = some (.lst xs)) (e : Fr1 a H H') : Side2 CD CS H' pl s ct ch := by
  refine S.frf (F := [a]) (fun c o hc ho => e c o (fun z => hc (by simp [z])) ho) (fun c hc ys z => ?_) fun c hc => ?_
  · rw [List.mem_singleton.mp hc, h] at z
    cases z
  · rw [List.mem_singleton.mp hc]
    refine ⟨fun m => ?_, fun m => ?_⟩
    · obtain ⟨dx, hp⟩ := S.db.ob
      obtain ⟨sdx, stv, skvs, s1, _, s3, _⟩ := S.db.sch.ex
      simp only [Side.fix, List.mem_cons, List.not_mem_nil, or_false] at m
      rcases m with rfl | rfl | rfl | rfl | rfl
      · rw [hp] at h
        cases h
      · rw [s1] at h
        cases h
      · rw [s3] at h
        cases h
      · rw [S.db.rws] at h
        cases h
      · rw [S.hd.rws] at h
        cases h
    · obtain ⟨u, hu⟩ := S.dict m
      rw [hu] at h
      cases h
theorem Side2.of {p sp de dr dh : Addr} {G : Hp} {ds hs : List Addr} (D : DbAt CD CS H p pl sp de dr ds ct) (Hd : HeldAt H dh pl hs ch) (L : ∀ c ∈ foot p sp de dr ds, G c ≠ none) (n1 : G dh = none) (n2 : ∀ d ∈ hs, G d = none) (eq : ∀ (i : Nat) (a b : List (Key × V)), ct[i]? = some a → ch[i]? = some b → RowsEq H a b) :
    Side2 CD CS H pl ⟨p, sp, de, dr, ds, dh, hs⟩ ct ch := by
  obtain ⟨dx, hp⟩ := D.ob
  obtain ⟨sdx, stv, skvs, s1, _⟩ := D.sch.ex
  have inF : ∀ c ∈ ds, c ∈ foot p sp de dr ds := fun c hc => by simp [foot, hc]
  refine ⟨D, Hd, List.nodup_append.mpr ⟨D.nd, Hd.nd, fun x hx y hy e => ?_⟩, fun d hd => ?_, eq⟩
  · subst e
    exact L x (inF x hx) (n2 x hy)
  · intro m
    simp only [Side.fix, List.mem_cons, List.not_mem_nil, or_false] at m
    rcases List.mem_append.mp hd with h | h
    · have hdk : ∃ u, H d = some (.dK u) := by
        obtain ⟨i, hi, ei⟩ := List.getElem_of_mem h
        have hi2 : i < ct.length := by rw [D.cl, ← D.dl]; exact hi
        exact ⟨_, D.at_ i d _ (by rw [List.getElem?_eq_getElem hi, ei]) (List.getElem?_eq_getElem hi2)⟩
      obtain ⟨u, hu⟩ := hdk
      rcases m with rfl | rfl | rfl | rfl | rfl
      · rw [hp] at hu
        cases hu
      · rw [s1] at hu
        cases hu
      · exact D.apart.2 h
      · exact D.apart.1 h
      · exact L _ (inF _ h) n1
    · rcases m with rfl | rfl | rfl | rfl | rfl
      · exact L _ (by simp [foot]) (n2 _ h)
      · exact L _ (by simp [foot]) (n2 _ h)
      · exact L _ (by simp [foot]) (n2 _ h)
      · exact L _ (by simp [foot]) (n2 _ h)
      · exact Hd.apart h
theorem Side2.step {H1 : Hp} {i : Nat} {d d2 : Addr} {ka kb : List (Key × V)} (S : Side2 CD CS H pl s ct ch) (hd : s.ds[i]? = some d) (hd2 : s.hs[i]? = some d2)
    (D1 : DbAt CD CS H1 s.p pl s.sp s.de s.dr s.ds (ct.set i ka)) (e : Fr1 d H H1) (q : RowsEq (upd H1 d2 (.dK kb)) ka kb) : Side2 CD CS (upd H1 d2 (.dK kb)) pl s (ct.set i ka) (ch.set i kb) := by
  have hdm : d ∈ s.ds := List.mem_of_getElem? hd
  have hdm2 : d2 ∈ s.hs := List.mem_of_getElem? hd2
  have dj := (List.nodup_append.mp S.nd).2.2
  have hi2 : i < ch.length := by rw [S.hd.cl, ← S.hd.dl]; exact (List.getElem?_eq_some_iff.mp hd2).1
  have hi1 : i < ct.length := by rw [S.db.cl, ← S.db.dl]; exact (List.getElem?_eq_some_iff.mp hd).1
  have h2 : H d2 = some (.dK ch[i]) := S.hd.at_ i d2 _ hd2 (List.getElem?_eq_getElem hi2)
  have hd0 : H d = some (.dK ct[i]) := S.db.at_ i d _ hd (List.getElem?_eq_getElem hi1)
  have n12 : d2 ≠ d := fun z => dj d hdm d2 hdm2 z.symm
  have h2' : H1 d2 = some (.dK ch[i]) := e d2 _ n12 h2
  have ap1 := S.ap d (List.mem_append.mpr (.inl hdm))
  have ap2 := S.ap d2 (List.mem_append.mpr (.inr hdm2))
  have kt1 : KT H H1 := fun c xs hc => e c _ (ne_of hc hd0 (by intro z; cases z)) hc
  have kt2 : KT H1 (upd H1 d2 (.dK kb)) := fun c xs hc => by
    rw [upd_ne (ne_of hc h2' (by intro z; cases z))]
    exact hc
  have kH : HeldAt H1 s.dh pl s.hs ch := S.hd.keep ⟨fun c hc o ho => e c o (fun z => by
    subst z
    rcases List.mem_cons.mp hc with h | h
    · exact ap1 (by simp [Side.fix, h])
    · exact dj c hdm c h rfl) ho, kt1⟩
  refine ⟨D1.keep ⟨fun c hc o ho => ?_, kt2⟩, kH.set (kvs := ch[i]) hd2 kb, S.nd, S.ap, fun j a b h1 h3 => ?_⟩
  · have : c ≠ d2 := fun z => by
      subst z
      simp only [foot, List.mem_cons] at hc
      rcases hc with h | h | h | h | h
      · exact ap2 (by simp [Side.fix, h])
      · exact ap2 (by simp [Side.fix, h])
      · exact ap2 (by simp [Side.fix, h])
      · exact ap2 (by simp [Side.fix, h])
      · exact dj c h c hdm2 rfl
    rw [upd_ne this]
    exact ho
  · by_cases c : i = j
    · subst c
      rw [List.getElem?_set_self hi1] at h1
      rw [List.getElem?_set_self hi2] at h3
      cases h1
      cases h3
      exact q
    · rw [List.getElem?_set_ne c] at h1 h3
      exact (S.eq j a b h1 h3).mono (kt1.trans kt2)
end
structure Many2 (n : Nat) (CD CS : Addr) (H : Hp) (PL : Nat → Plan) (S : Nat → Side) (C Ch : Nat → List (List (Key × V))) (m : Nat) : Prop where
  sd : ∀ k, k < n → Side2 CD CS H (PL k) (S k) (C k) (Ch k)
  ln : ∀ k, k < n → ∀ kvs ∈ C k, kvs.length ≤ m
def setF (C : Nat → List (List (Key × V))) (k i : Nat) (kvs : List (Key × V)) : Nat → List (List (Key × V)) := fun j => if j = k then (C k).set i kvs else C j
theorem setF_at (C : Nat → List (List (Key × V))) (k i : Nat) (kvs : List (Key × V)) : setF C k i kvs k = (C k).set i kvs := if_pos rfl
section
variable {n : Nat} {CD CS : Addr} {H H' : Hp} {PL : Nat → Plan} {S : Nat → Side} {C Ch : Nat → List (List (Key × V))} {m : Nat}
theorem Many2.same (W : Many2 n CD CS H PL S C Ch m) (e : Same H H') : Many2 n CD CS H' PL S C Ch m := ⟨fun k hk => (W.sd k hk).same e, W.ln⟩
theorem Many2.up {m' : Nat} (W : Many2 n CD CS H PL S C Ch m) (l : m ≤ m') : Many2 n CD CS H PL S C Ch m' := ⟨W.sd, fun k hk kvs h => Nat.le_trans (W.ln k hk kvs h) l⟩
theorem Many2.fr1 {a : Addr} {xs : List V} (W : Many2 n CD CS H PL S C Ch m) (h : H a = some (.lst xs)) (e : Fr1 a H H') : Many2 n CD CS H' PL S C Ch m := ⟨fun k hk => (W.sd k hk).fr1 h e, W.ln⟩
theorem Many2.step {H1 : Hp} {k i : Nat} {d d2 : Addr} {ka kb : List (Key × V)} (W : Many2 n CD CS H PL S C Ch m) (A : ApartN n S) (hk : k < n) (hd : (S k).ds[i]? = some d) (hd2 : (S k).hs[i]? = some d2)
    (D1 : DbAt CD CS H1 (S k).p (PL k) (S k).sp (S k).de (S k).dr (S k).ds ((C k).set i ka)) (e : Fr1 d H H1) (l : ka.length ≤ m) (q : RowsEq (upd H1 d2 (.dK kb)) ka kb) :
    FrF [d, d2] H (upd H1 d2 (.dK kb)) ∧ KT H (upd H1 d2 (.dK kb)) ∧ (∀ (c : Addr) (xs : List V), H c = some (.lst xs) → upd H1 d2 (.dK kb) c = some (.lst xs)) ∧ Many2 n CD CS (upd H1 d2 (.dK kb)) PL S (setF C k i ka) (setF Ch k i kb) m := by
  have hdm : d ∈ (S k).dicts := List.mem_append.mpr (.inl (List.mem_of_getElem? hd))
  have hdm2 : d2 ∈ (S k).dicts := List.mem_append.mpr (.inr (List.mem_of_getElem? hd2))
  obtain ⟨u1, hu1⟩ := (W.sd k hk).dict hdm
  obtain ⟨u2, hu2⟩ := (W.sd k hk).dict hdm2
  have f : FrF [d, d2] H (upd H1 d2 (.dK kb)) := fun c o hc ho => by
    simp only [List.mem_cons, List.not_mem_nil, or_false, not_or] at hc
    rw [upd_ne hc.2]
    exact e c o hc.1 ho
  have nt : ∀ c ∈ [d, d2], ∀ xs, H c ≠ some (.tup xs) := fun c hc xs z => by
    simp only [List.mem_cons, List.not_mem_nil, or_false] at hc
    rcases hc with rfl | rfl
    · rw [hu1] at z
      cases z
    · rw [hu2] at z
      cases z
  have kt : KT H (upd H1 d2 (.dK kb)) := (f.kept (G := []) (fun c hc => by cases hc) nt).kt
  have ls : ∀ (c : Addr) (xs : List V), H c = some (.lst xs) → upd H1 d2 (.dK kb) c = some (.lst xs) := fun c xs h => f c _ (fun z => by
    simp only [List.mem_cons, List.not_mem_nil, or_false] at z
    rcases z with rfl | rfl
    · rw [hu1] at h
      cases h
    · rw [hu2] at h
      cases h) h
  refine ⟨f, kt, ls, fun j hj => ?_, fun j hj => ?_⟩
  · show Side2 CD CS _ (PL j) (S j) (if j = k then _ else _) (if j = k then _ else _)
    by_cases z : j = k
    · subst z
      rw [if_pos rfl, if_pos rfl]
      exact (W.sd j hj).step hd hd2 D1 e q
    · rw [if_neg z, if_neg z]
      refine (W.sd j hj).frf f nt fun c hc => ?_
      simp only [List.mem_cons, List.not_mem_nil, or_false] at hc
      rcases hc with rfl | rfl
      · exact A k j hk hj (fun w => z w.symm) _ hdm
      · exact A k j hk hj (fun w => z w.symm) _ hdm2
  · show ∀ kvs ∈ (if j = k then _ else _), _
    split
    · rename_i z
      subst z
      intro kvs hv
      rcases List.mem_or_eq_of_mem_set hv with h | rfl
      · exact W.ln j hj kvs h
      · exact l
    · exact W.ln j hj
end
def addF {α : Type} (f : Nat → α) (i : Nat) (x : α) : Nat → α := fun k => if k = i then x else f k
theorem addF_at {α : Type} (f : Nat → α) (i : Nat) (x : α) : addF f i x i = x := if_pos rfl
theorem addF_ne {α : Type} (f : Nat → α) (i : Nat) (x : α) {k : Nat} (h : k ≠ i) : addF f i x k = f k := if_neg h
structure Hn (i : Nat) (G H : Hp) (PL : Nat → Plan) (A : Nat → Addr) (hs : Nat → List Addr) : Prop where
  hd : ∀ k, k < i → HeldAt H (A k) (PL k) (hs k) (nils (PL k))
  free : ∀ k, k < i → ∀ d ∈ A k :: hs k, G d = none
  dj : ∀ k j, k < i → j < i → k ≠ j → ∀ d ∈ A k :: hs k, d ∉ A j :: hs j
section
variable {i n : Nat} {CD CS : Addr} {G H H' : Hp} {PL : Nat → Plan} {S : Nat → Side} {A : Nat → Addr} {hs : Nat → List Addr}
theorem Hn.zero : Hn 0 G H PL A hs := ⟨fun k h => absurd h (Nat.not_lt_zero _), fun k h => absurd h (Nat.not_lt_zero _), fun k j h => absurd h (Nat.not_lt_zero _)⟩
theorem Hn.same (Q : Hn i G H PL A hs) (e : Same H H') : Hn i G H' PL A hs := ⟨fun k hk => (Q.hd k hk).same e, Q.free, Q.dj⟩
theorem Hn.add (Q : Hn i G H PL A hs) (eG : Same G H) {a : Addr} {l : List Addr} (D : HeldAt H' a (PL i) l (nils (PL i))) (f : ∀ d ∈ a :: l, H d = none) (e : Same H H') : Hn (i + 1) G H' PL (addF A i a) (addF hs i l) := by
  refine ⟨fun k hk => ?_, fun k hk d hd => ?_, fun k j hk hj hkj d hd hm => ?_⟩
  · by_cases z : k = i
    · subst z
      rw [addF_at, addF_at]
      exact D
    · rw [addF_ne _ _ _ z, addF_ne _ _ _ z]
      exact (Q.hd k (by omega)).same e
  · by_cases z : k = i
    · subst z
      rw [addF_at, addF_at] at hd
      exact eG.free (f d hd)
    · rw [addF_ne _ _ _ z, addF_ne _ _ _ z] at hd
      exact Q.free k (by omega) d hd
  · have lv : ∀ k, k < i → ∀ c ∈ A k :: hs k, H c ≠ none := fun k hk c hc z => by
      obtain ⟨u, hu⟩ := (Q.hd k hk).live c hc
      rw [hu] at z
      cases z
    by_cases z : k = i
    · subst z
      rw [addF_at, addF_at] at hd
      rw [addF_ne _ _ _ (fun w => hkj w.symm), addF_ne _ _ _ (fun w => hkj w.symm)] at hm
      exact lv j (by omega) d hm (f d hd)
    · rw [addF_ne _ _ _ z, addF_ne _ _ _ z] at hd
      by_cases w : j = i
      · subst w
        rw [addF_at, addF_at] at hm
        exact lv k (by omega) d hd (f d hm)
      · rw [addF_ne _ _ _ w, addF_ne _ _ _ w] at hm
        exact Q.dj k j (by omega) (by omega) hkj d hd hm
theorem sides2_of (B : Bases n CD CS G PL S) (e : Same G H) (Q : Hn n G H PL A hs) :
    Many2 n CD CS H PL (sides S A hs) (fun k => nils (PL k)) (fun k => nils (PL k)) 0 ∧ ApartN n (sides S A hs) ∧ ∀ k, k < n → A k ∉ ft (S k) := by
  refine ⟨⟨fun k hk => Side2.of (((B.db k hk).same e)) (Q.hd k hk) (B.db k hk).live (Q.free k hk _ List.mem_cons_self) (fun d hd => Q.free k hk d (List.mem_cons_of_mem _ hd)) fun i a b h1 h2 => by
    rw [nils_at h1, nils_at h2]
    exact RowsEq.nil, fun k hk kvs h => by rw [nils_mem h]; exact Nat.le_refl _⟩, fun k j hk hj hkj c hc => ?_, fun k hk m => (B.db k hk).live _ m (Q.free k hk _ List.mem_cons_self)⟩
  have inF : ∀ k c, c ∈ (S k).ds → c ∈ ft (S k) := fun k c h => by simp [ft, foot, h]
  have inX : ∀ c, c ∈ (sides S A hs j).fix → c ∈ ft (S j) ∨ c = A j := fun c h => by
    simp only [sides, Side.fix, List.mem_cons, List.not_mem_nil, or_false] at h
    rcases h with rfl | rfl | rfl | rfl | rfl
    · exact .inl (by simp [ft, foot])
    · exact .inl (by simp [ft, foot])
    · exact .inl (by simp [ft, foot])
    · exact .inl (by simp [ft, foot])
    · exact .inr rfl
  rcases List.mem_append.mp hc with h | h
  · have h : c ∈ (S k).ds := h
    have lv := (B.db k hk).live c (inF k c h)
    refine ⟨fun m => ?_, fun m => ?_⟩
    · rcases inX c m with g | rfl
      · exact B.ap k j hk hj hkj c (inF k c h) g
      · exact lv (Q.free j hj _ List.mem_cons_self)
    · rcases List.mem_append.mp m with g | g
      · exact B.ap k j hk hj hkj c (inF k c h) (inF j c g)
      · exact lv (Q.free j hj c (List.mem_cons_of_mem _ g))
  · have h : c ∈ hs k := h
    refine ⟨fun m => ?_, fun m => ?_⟩
    · rcases inX c m with g | rfl
      · exact (B.db j hj).live c g (Q.free k hk c (List.mem_cons_of_mem _ h))
      · exact Q.dj k j hk hj hkj _ (List.mem_cons_of_mem _ h) List.mem_cons_self
    · rcases List.mem_append.mp m with g | g
      · exact (B.db j hj).live c (inF j c g) (Q.free k hk c (List.mem_cons_of_mem _ h))
      · exact Q.dj k j hk hj hkj c (List.mem_cons_of_mem _ h) (List.mem_cons_of_mem _ g)
end
end My
namespace My
open PySem L2
theorem cellD_inj2 : ∀ {cs ds : List (Option Int)}, cs.map cellV = ds.map cellV → cs = ds
  | [], [], _ => rfl
  | [], _ :: _, h => by simp at h
  | _ :: _, [], h => by simp at h
  | c :: cs, d :: ds, h => by
    rw [List.map_cons, List.map_cons] at h
    have h1 := (List.cons.inj h).1
    have h2 := cellD_inj2 (List.cons.inj h).2
    subst h2
    cases c <;> cases d
    · rfl
    · cases h1
    · cases h1
    · rw [V.int.inj h1]
theorem cellsD_inv2 : ∀ {H : Hp} {xs : List V} {cs : List (Option Int)}, TdAll H xs (cs.map cellD) → xs = cs.map cellV
  | _, _, [], h => by cases h; rfl
  | _, _, c :: cs, h => by
    cases h with
    | cons h1 h2 => rw [List.map_cons, ← cellsD_inv2 h2, cellD_inv h1]
theorem rowD_cells2 {H : Hp} {v : V} {l1 l2 : Int} {c1 c2 : List (Option Int)} (h1 : Td H v (rowD l1 c1)) (h2 : Td H v (rowD l2 c2)) : c1 = c2 := by
  obtain ⟨t, tc, xs, rfl, ht, hc, hx⟩ := rowD_inv h1
  obtain ⟨t', tc', xs', e, ht', hc', hx'⟩ := rowD_inv h2
  cases e
  rw [ht] at ht'
  have h := HO.tup.inj (Option.some.inj ht')
  have h3 : tc = tc' := V.ref.inj (List.cons.inj (List.cons.inj h).2).1
  subst h3
  rw [hc] at hc'
  have h4 := HO.tup.inj (Option.some.inj hc')
  subst h4
  exact cellD_inj2 ((cellsD_inv2 hx).symm.trans (cellsD_inv2 hx'))
end My
namespace My
open PySem L2
section
variable {n n' : Nat} {CD CS : Addr} {G H H' : Hp} {PL : Nat → Plan} {S : Nat → Side} {C : Nat → List (List (Key × V))} {m : Nat}
theorem Many.sel (W : Many n CD CS H PL S C m) (f : Nat → Nat) (hf : ∀ k, k < n' → f k < n) : Many n' CD CS H (fun k => PL (f k)) (fun k => S (f k)) (fun k => C (f k)) m := ⟨fun k hk => W.sd (f k) (hf k hk), fun k hk => W.ln (f k) (hf k hk)⟩
theorem ApartN.sel (A : ApartN n S) (f : Nat → Nat) (hf : ∀ k, k < n' → f k < n) (inj : ∀ k j, k < n' → j < n' → k ≠ j → f k ≠ f j) : ApartN n' (fun k => S (f k)) := fun k j hk hj hkj => A (f k) (f j) (hf k hk) (hf j hj) (inj k j hk hj hkj)
theorem SideAt.live {pl : Plan} {s : Side} {ct : List (List (Key × V))} (D : SideAt CD CS H pl s ct) : ∀ c, c ∈ s.fix ∨ c ∈ s.dicts → H c ≠ none := fun c hc => by
  rcases hc with h | h
  · simp only [Side.fix, List.mem_cons, List.not_mem_nil, or_false] at h
    rcases h with rfl | rfl | rfl | rfl | rfl
    · exact D.db.live _ (by simp [foot])
    · exact D.db.live _ (by simp [foot])
    · exact D.db.live _ (by simp [foot])
    · exact D.db.live _ (by simp [foot])
    · rw [D.hd.rws]
      intro z
      cases z
  · obtain ⟨u, hu⟩ := D.dict h
    rw [hu]
    intro z
    cases z
theorem SideAt.of2 {p sp de dr dh : Addr} {pl : Plan} {ds hs : List Addr} {ct : List (List (Key × V))} (D : DbAt CD CS H p pl sp de dr ds ct) (Hd : HeldAt H dh pl hs ct) (L : ∀ c ∈ dh :: hs, G c ≠ none) (n1 : ∀ c ∈ foot p sp de dr ds, G c = none) : SideAt CD CS H pl ⟨p, sp, de, dr, ds, dh, hs⟩ ct := by
  obtain ⟨dx, hp⟩ := D.ob
  obtain ⟨sdx, stv, skvs, s1, _⟩ := D.sch.ex
  have inF : ∀ c ∈ ds, c ∈ foot p sp de dr ds := fun c hc => by simp [foot, hc]
  refine ⟨D, Hd, List.nodup_append.mpr ⟨D.nd, Hd.nd, fun x hx y hy e => ?_⟩, fun d hd => ?_⟩
  · subst e
    exact L x (List.mem_cons_of_mem _ hy) (n1 x (inF x hx))
  · intro m
    simp only [Side.fix, List.mem_cons, List.not_mem_nil, or_false] at m
    rcases List.mem_append.mp hd with h | h
    · have hdk : ∃ u, H d = some (.dK u) := by
        obtain ⟨i, hi, ei⟩ := List.getElem_of_mem h
        have hi2 : i < ct.length := by rw [D.cl, ← D.dl]; exact hi
        exact ⟨_, D.at_ i d _ (by rw [List.getElem?_eq_getElem hi, ei]) (List.getElem?_eq_getElem hi2)⟩
      obtain ⟨u, hu⟩ := hdk
      rcases m with rfl | rfl | rfl | rfl | rfl
      · rw [hp] at hu
        cases hu
      · rw [s1] at hu
        cases hu
      · exact D.apart.2 h
      · exact D.apart.1 h
      · exact L _ List.mem_cons_self (n1 _ (inF _ h))
    · rcases m with rfl | rfl | rfl | rfl | rfl
      · exact L _ (List.mem_cons_of_mem _ h) (n1 _ (by simp [foot]))
      · exact L _ (List.mem_cons_of_mem _ h) (n1 _ (by simp [foot]))
      · exact L _ (List.mem_cons_of_mem _ h) (n1 _ (by simp [foot]))
      · exact L _ (List.mem_cons_of_mem _ h) (n1 _ (by simp [foot]))
      · exact Hd.apart h
theorem Many.add {pl : Plan} {s : Side} {ct : List (List (Key × V))} (W : Many n CD CS H PL S C m) (A : ApartN n S) (e : Same H H') (hp : PL n = pl) (D : SideAt CD CS H' pl s ct) (fr : ∀ c, c ∈ s.fix ∨ c ∈ s.dicts → H c = none) (l : ∀ kvs ∈ ct, kvs.length ≤ m) :
    Many (n + 1) CD CS H' PL (addF S n s) (addF C n ct) m ∧ ApartN (n + 1) (addF S n s) := by
  refine ⟨⟨fun k hk => ?_, fun k hk => ?_⟩, fun k j hk hj hkj c hc => ?_⟩
  · by_cases z : k = n
    · subst z
      rw [addF_at, addF_at, hp]
      exact D
    · rw [addF_ne _ _ _ z, addF_ne _ _ _ z]
      exact (W.sd k (by omega)).same e
  · by_cases z : k = n
    · subst z
      rw [addF_at]
      exact l
    · rw [addF_ne _ _ _ z]
      exact W.ln k (by omega)
  · by_cases z : k = n
    · subst z
      rw [addF_at] at hc
      rw [addF_ne _ _ _ (fun w => hkj w.symm)]
      have hn := fr c (.inr hc)
      exact ⟨fun q => (W.sd j (by omega)).live c (.inl q) hn, fun q => (W.sd j (by omega)).live c (.inr q) hn⟩
    · rw [addF_ne _ _ _ z] at hc
      by_cases w : j = n
      · subst w
        rw [addF_at]
        have hl := (W.sd k (by omega)).live c (.inr hc)
        exact ⟨fun q => hl (fr c (.inl q)), fun q => hl (fr c (.inr q))⟩
      · rw [addF_ne _ _ _ w]
        exact A k j (by omega) (by omega) hkj c hc
end
theorem cut_last2 (xs : List V) (h : 1 ≤ xs.length) : cutV xs (some (-2)) none = xs.drop (xs.length - 2) := by
  unfold cutV
  rw [HT.sIx_none]
  have : HT.sIx xs.length 0 (some (-2)) = xs.length - 2 := by
    unfold HT.sIx
    simp
    omega
  rw [this]
  exact List.take_of_length_le (by rw [List.length_drop]; exact Nat.le_refl _)
structure CopyAt (H0 : Hp) (A : Addr) (pl : Plan) (ct : List (List (Key × V))) (j : Nat) (hs : List Addr) (H : Hp) : Prop where
  le : j ≤ pl.length
  hl : hs.length = j
  nd : hs.Nodup
  ds : ∀ d ∈ hs, H0 d = none ∧ d ≠ A
  ct_ : ∀ (i : Nat) (d : Addr) (kvs : List (Key × V)), hs[i]? = some d → ct[i]? = some kvs → H d = some (.dK kvs)
  at_ : H A = some (.dK (rowsK (pl.take j) hs))
  fr : Fr1 A H0 H
theorem CopyAt.start {H0 : Hp} {A : Addr} (pl : Plan) (ct : List (List (Key × V))) (h : H0 A = some (.dK [])) : CopyAt H0 A pl ct 0 [] H0 := ⟨Nat.zero_le _, rfl, List.nodup_nil, by simp, by simp, h, Fr1.refl _ _⟩
theorem CopyAt.live {H0 H : Hp} {A : Addr} {pl : Plan} {ct : List (List (Key × V))} {j : Nat} {hs : List Addr} (F : CopyAt H0 A pl ct j hs H) (cl : ct.length = pl.length) : ∀ d ∈ hs, ∃ u, H d = some (.dK u) := fun d hd => by
  obtain ⟨i, hi, ei⟩ := List.getElem_of_mem hd
  have h1 := F.hl
  have h2 := F.le
  exact ⟨_, F.ct_ i d ct[i] (by rw [List.getElem?_eq_getElem hi, ei]) (List.getElem?_eq_getElem (by omega))⟩
theorem CopyAt.no {H0 H : Hp} {A : Addr} {pl : Plan} {ct : List (List (Key × V))} {j : Nat} {hs : List Addr} (F : CopyAt H0 A pl ct j hs H) (nd : (pl.map (·.1)).Nodup) {en : Ent} (hen : pl[j]? = some en) : valV (rowsK (pl.take j) hs) (Sum.inr en.1 : Key) = none := by
  have hjp : j < pl.length := (List.getElem?_eq_some_iff.mp hen).1
  refine valV_no (rowsK_keys (by rw [List.length_take, F.hl]; omega)) fun hm => ?_
  obtain ⟨e2, he2, ee⟩ := List.mem_map.mp hm
  obtain ⟨m, hm2, em⟩ := List.getElem_of_mem he2
  rw [List.getElem_take] at em
  have hmj : m < j := by
    rw [List.length_take] at hm2
    omega
  obtain ⟨l2, g2⟩ := List.getElem?_eq_some_iff.mp hen
  have a1 : (pl.map (·.1))[m]'(by rw [List.length_map]; omega) = (pl.map (·.1))[j]'(by rw [List.length_map]; omega) := by
    rw [List.getElem_map, List.getElem_map, g2, em, ee]
  have := (List.getElem_inj nd).mp a1
  omega
end My
namespace My
open PySem PySem.Spec PyProof.Rows L2
def rMaxDD : List V → List V → Hp → VK → Prop := fun xs zs H Q => ∃ (a : Addr) (kvs : List (Key × V)) (ks : List Int) (d : Int), xs = [.ref a] ∧ zs = [.int d] ∧ Rd H a (.dK kvs) ∧ kvs.map (·.1) = ks.map Sum.inl ∧ (ks = [] → Q (.int d) H) ∧ (∀ m ∈ ks, (∀ y ∈ ks, y ≤ m) → Q (.int m) H)
theorem cr_maxDD {X : Cx} (hcalm : X.calm = true) : CallRK X (.builtin "max") [Str.ofString "default"] rMaxDD := by
  intro pins s σ H xs zs us ws Q I r rz h
  obtain ⟨a, kvs, ks, d, rfl, rfl, hd, hks, q0, q1⟩ := h
  obtain ⟨u, rfl, rx⟩ := vals1 r
  obtain rfl : u = Value.ref a := rx
  obtain ⟨wd, rfl, rd⟩ := vals1 rz
  obtain ⟨z, lo, vs, rel, dd⟩ := dk_rd I.hok hd
  obtain ⟨ep, hat⟩ := dd.dictAt
  have hkeys : vs.map (·.1) = ks.map Sum.inl := rel.keys.symm.trans hks
  have hl : vs.length = ks.length := by
    have e := congrArg List.length hkeys
    rw [List.length_map, List.length_map] at e
    exact e
  have hint : ∀ i v, (∃ k x, vs[i]? = some (k, x) ∧ (mixKind X.prog X.w).is k v = true) → i < ks.length ∧ ∃ t, v = Value.int (ks.getD i 0) t := by
    rintro i v ⟨k, x, e1, e2⟩
    have hi : i < ks.length := by rw [← hl]; exact (List.getElem?_eq_some_iff.mp e1).1
    refine ⟨hi, ?_⟩
    have e3 : (vs.map (·.1))[i]? = some k := by rw [List.getElem?_map, e1]; rfl
    rw [hkeys, List.getElem?_map, List.getElem?_eq_getElem hi] at e3
    have e5 : Sum.inl ks[i] = k := Option.some.inj e3
    subst e5
    have e6 : ks.getD i 0 = ks[i] := by rw [List.getD_eq_getElem?_getD, List.getElem?_eq_getElem hi]; rfl
    rw [e6]
    rcases keyIs_shape (show keyIs (Sum.inl ks[i]) v = true from e2) with ⟨j, t, ek, ev⟩ | ⟨j, t, ek, ev⟩
    · cases ek
      exact ⟨t, ev⟩
    · cases ek
  show wpAny _ X.A (call (.builtin "max") [.ref a] [(Str.ofString "default", wd)]) _ _ _
  refine call_max_walkD (wpAny_pyIter_dict lo hat ?_)
  have hne := hat.lt_size
  refine ⟨s.heap.objs.size, _, _, _, vs.length, _, _, s.heap, (fun i j => decide (ks.getD i 0 > ks.getD j 0)), rfl, (Walks.dictKeys (knd := mixKind X.prog X.w) (A := X.A.in1) (by simp [I.ok.hd hcalm]) _ a (Nat.ne_of_lt hne) vs ep).toS, ⟨⟨_, Heap.get?_push_size _ rfl, rfl, rfl⟩, hat.push _⟩, fun b hb => ?_, fun b o e hb => ?_, fun b o e => Heap.get?_push_of_some _ e, fun hz s' m => ?_, fun hp => ⟨fun i j vi vj s' Q' E' _ hi hj hq => ?_, fun v s' hP m => ?_⟩⟩
  · show b < (s.heap.push _).objs.size
    rw [Heap.size_push]
    rcases List.mem_cons.mp hb with rfl | hb
    · exact Nat.lt_succ_self _
    · rw [List.mem_singleton.mp hb]
      exact Nat.lt_succ_of_lt hne
  · rw [List.mem_singleton.mp hb] at e
    exact absurd (Heap.lt_size e) (Nat.lt_irrefl _)
  · obtain ⟨h', tk, rfl, hk'⟩ := PySem.W.moved_old rfl rfl m
    exact ⟨.int d, H, I.kept hk', rd, q0 (List.eq_nil_of_length_eq_zero (by omega))⟩
  · obtain ⟨hi1, t1, rfl⟩ := hint i vi hi
    obtain ⟨hj1, t2, rfl⟩ := hint j vj hj
    exact PyProof.Rows.gt_int hq
  · obtain ⟨h', tk, rfl, hk'⟩ := PySem.W.moved_old rfl rfl m
    obtain ⟨hi1, t1, rfl⟩ := hint _ v hP
    obtain ⟨h1, h2⟩ := PySem.argBest_gt (fun i => ks.getD i 0) (vs.length - 1)
    refine ⟨.int _, H, I.kept hk', ⟨t1, rfl⟩, q1 _ ?_ fun y hy => ?_⟩
    · rw [List.getD_eq_getElem?_getD, List.getElem?_eq_getElem hi1]
      exact List.getElem_mem hi1
    · obtain ⟨j, hj, ej⟩ := List.getElem_of_mem hy
      have := h2 j (by omega)
      have e6 : ks.getD j 0 = y := by rw [List.getD_eq_getElem?_getD, List.getElem?_eq_getElem hj]; exact ej
      rw [e6] at this
      exact this
end My
namespace My
open PySem PySem.Spec PyProof.Rows L2
def rEqE : R2 := fun x y H Q => ∃ (a b : Addr) (ks : List (Key × V)), x = .ref a ∧ y = .ref b ∧ H a = some (.dK ks) ∧ H b = some (.dK []) ∧ Q (.bl ks.isEmpty) H
def rNeE : R2 := fun x y H Q => ∃ (a b : Addr) (ks : List (Key × V)), x = .ref a ∧ y = .ref b ∧ H a = some (.dK ks) ∧ H b = some (.dK []) ∧ Q (.bl (!ks.isEmpty)) H
section
variable {X : Cx}
theorem op_eqE (hu : X.A.units < cLine) : OpR X (compareOp .Eq) rEqE := by
  intro pins s σ H x y v u Q I rx ry h
  obtain ⟨a, b, ks, rfl, rfl, ea, eb, q⟩ := h
  obtain rfl : v = Value.ref a := rx
  obtain rfl : u = Value.ref b := ry
  obtain ⟨_, ya, va, ra, da⟩ := (show ObjOk X.prog X.w H s.heap a (.dK ks) from I.hok a _ ea)
  obtain ⟨_, yb, vb, rb, db⟩ := (show ObjOk X.prog X.w H s.heap b (.dK []) from I.hok b _ eb)
  have l1 := ra.length
  have l2 := rb.length
  refine PySem.W.keq_eq (knd := mixKind X.prog X.w) (r := true) ya yb da db hu (fun e => hits_all rb ra fun p hp => ?_) (fin_bl I q ?_)
  · have : ks = [] := List.eq_nil_of_length_eq_zero (by rw [l1, e, ← l2]; rfl)
    rw [this] at hp
    cases hp
  · rw [← l1, ← l2]
    cases ks <;> simp
theorem op_neE (hu : X.A.units < cLine) : OpR X (compareOp .NotEq) rNeE := by
  intro pins s σ H x y v u Q I rx ry h
  obtain ⟨a, b, ks, rfl, rfl, ea, eb, q⟩ := h
  obtain rfl : v = Value.ref a := rx
  obtain rfl : u = Value.ref b := ry
  obtain ⟨_, ya, va, ra, da⟩ := (show ObjOk X.prog X.w H s.heap a (.dK ks) from I.hok a _ ea)
  obtain ⟨_, yb, vb, rb, db⟩ := (show ObjOk X.prog X.w H s.heap b (.dK []) from I.hok b _ eb)
  have l1 := ra.length
  have l2 := rb.length
  refine PySem.W.keq_ne (knd := mixKind X.prog X.w) (r := true) ya yb da db hu (fun e => hits_all rb ra fun p hp => ?_) (fin_bl I q ?_)
  · have : ks = [] := List.eq_nil_of_length_eq_zero (by rw [l1, e, ← l2]; rfl)
    rw [this] at hp
    cases hp
  · rw [← l1, ← l2]
    cases ks <;> simp
end
end My
namespace My
open PySem PySem.Spec PyProof.Rows L2
open PySem.AutoSeq1 (wpAny_loadPart')
section
variable {prog : Program} {w : World} {A : Around} {R : Result → Shared → Prop} {s : Shared} {x dx C : Addr}
theorem dec_int (a : Int) (t : Tok) (hl : s.heap.get? x = some (PySem.W.instObj C dx)) (h : R (.ok (.ret .notImplemented)) s) : wpAny (model prog w) A.in1 (Builtin.«int.__eq__» ⟨[.int a t, .ref x], []⟩) (GQ.FinOf prog w A R) (fun e s' => R (.error e) s') s := by
  obtain ⟨hp, g, d, tk, os⟩ := s
  wp_walk using wpAny_loadPart' hl, wpAny_load hl
  exact h
theorem dec_bool (a : Bool) (hl : s.heap.get? x = some (PySem.W.instObj C dx)) (h : R (.ok (.ret .notImplemented)) s) : wpAny (model prog w) A.in1 (Builtin.«int.__eq__» ⟨[.bool a, .ref x], []⟩) (GQ.FinOf prog w A R) (fun e s' => R (.error e) s') s := by
  obtain ⟨hp, g, d, tk, os⟩ := s
  wp_walk using wpAny_loadPart' hl, wpAny_load hl
  exact h
theorem dec_str (a : Str) (t : Tok) (hl : s.heap.get? x = some (PySem.W.instObj C dx)) (h : R (.ok (.ret .notImplemented)) s) : wpAny (model prog w) A.in1 (Builtin.«str.__eq__» ⟨[.str a t, .ref x], []⟩) (GQ.FinOf prog w A R) (fun e s' => R (.error e) s') s := by
  obtain ⟨hp, g, d, tk, os⟩ := s
  wp_walk using wpAny_loadPart' hl, wpAny_load hl
  exact h
theorem dec_tuple {l : Addr} (hl : s.heap.get? x = some (PySem.W.instObj C dx)) (L2 : PySem.W.Looks (model prog w) s.heap (isSubtype (.ref C) (.type "tuple")) false)
    (h : R (.ok (.ret .notImplemented)) s) : wpAny (model prog w) A.in1 (Builtin.«tuple.__eq__» ⟨[.ref l, .ref x], []⟩) (GQ.FinOf prog w A R) (fun e s' => R (.error e) s') s := by
  obtain ⟨hp, g, d, tk, os⟩ := s
  wp_walk using wpAny_loadPart' hl, wpAny_load hl
  refine L2.here ?_
  wp_walk
  exact h
theorem dec_list {l : Addr} (hl : s.heap.get? x = some (PySem.W.instObj C dx)) (L2 : PySem.W.Looks (model prog w) s.heap (isSubtype (.ref C) (.type "list")) false)
    (h : R (.ok (.ret .notImplemented)) s) : wpAny (model prog w) A.in1 (Builtin.«list.__eq__» ⟨[.ref l, .ref x], []⟩) (GQ.FinOf prog w A R) (fun e s' => R (.error e) s') s := by
  obtain ⟨hp, g, d, tk, os⟩ := s
  wp_walk using wpAny_loadPart' hl, wpAny_load hl
  refine L2.here ?_
  wp_walk
  exact h

theorem rc_back {E : Value → Shared → Prop} {K : PySem.W.Frag} {T : String} {id : String} {a : Value} {f : Addr} {ox : Obj} {od : Option Obj} {Q : Value → Shared → Prop} (ha : s.TypeIs a T) (X : K.In s.heap) (I : PySem.W.InstAt s.heap x ox C od)
    (hsub : PySem.W.subIn K (.ref C) (.type T) = some false) (h1 : Slot T "__eq__" id) (hu : A.units < cLine)
    (hc : ∀ Q' : Value → Shared → Prop, Q' .notImplemented s → wpAny (model prog w) A (call (.builtin id) [a, .ref x]) Q' E s)
    (hs : PySem.W.findIn K (.ref C) "__eq__" = some (some (.ref f))) (hf : PySem.W.isFn K (.ref f) = true)
    (h : wpAny (model prog w) A (call (.ref f) [.ref x, a]) (PySem.W.CmpBack Q) E s) : wpAny (model prog w) A (richCompare .Eq a (.ref x)) Q E s := by
  have one : wpAny (model prog w) A (tryCompare a "__eq__" (.ref x)) (fun r s' => r = none ∧ s' = s) E s := wpAny_tryCompare_declines ha h1 (hc _ ⟨rfl, rfl, rfl⟩)
  have two : wpAny (model prog w) A (tryCompare (.ref x) "__eq__" a) (fun r s' => ∃ v, r = some v ∧ Q v s') E s := by
    unfold tryCompare
    refine wpAny_bind (PySem.W.ifBound_K X I hs hf (wpAny_mono h (fun v s' hv => ?_) fun _ _ e => e))
    cases v <;> first | exact hv.elim | exact wpAny_pure ⟨_, rfl, hv⟩
  simp only [richCompare, cmpInfo_Eq, ha.oneThing_none]
  refine wpAny_holding (wpAny_bind (wpAny_cRoomFor hu ?_))
  refine wpAny_bind (wpAny_typeOf ha ?_)
  refine wpAny_bind (I.type.here ?_)
  split
  · refine wpAny_bind ((PySem.W.looks_subIn X hsub).here ?_)
    simp only [Bool.false_eq_true, if_false, Bool.not_false, if_true]
    refine wpAny_bind (m := tryCompare a _ (.ref x)) (wpAny_mono one (fun r s1 z => ?_) fun _ _ e => e)
    obtain ⟨z1, z2⟩ := z
    subst z1
    subst z2
    refine wpAny_bind (m := tryCompare (.ref x) _ a) (wpAny_mono two (fun r s2 z => ?_) fun _ _ e => e)
    obtain ⟨v, rfl, hq⟩ := z
    exact wpAny_pure hq
  · rename_i q
    exact absurd (by simp) q
end
def noTy (K : PySem.W.Frag) (C : Addr) : Bool := ["NoneType", "int", "bool", "str", "tuple", "list"].all fun n => PySem.W.subIn K (.ref C) (.type n) == some false
theorem noTy_at {K : PySem.W.Frag} {C : Addr} (h : noTy K C = true) {T : String} (hT : T ∈ ["NoneType", "int", "bool", "str", "tuple", "list"]) : PySem.W.subIn K (.ref C) (.type T) = some false :=
  beq_iff_eq.mp (List.all_eq_true.mp h T hT)
inductive Pl (H : Hp) : V → Prop where
  | non : Pl H .non
  | int (i : Int) : Pl H (.int i)
  | bl (b : Bool) : Pl H (.bl b)
  | str (w : Str) : Pl H (.str w)
  | tup {a : Addr} {xs : List V} (h : H a = some (.tup xs)) : Pl H (.ref a)
  | lst {a : Addr} {xs : List V} (h : H a = some (.lst xs)) : Pl H (.ref a)
theorem subTy {K : PySem.W.Frag} {C : Addr} {T : String} {l : List Value} (h : fastBuiltinMro T = some l) (n : l.all (fun v => !onTheHeap v) = true) : PySem.W.subIn K (.type T) (.ref C) = some false := by
  show (fastBuiltinMro T).map (·.contains (.ref C)) = some false
  rw [h]
  have : l.contains (Value.ref C) = false := by
    refine Bool.eq_false_iff.mpr fun z => ?_
    have := List.all_eq_true.mp n _ (List.contains_iff_mem.mp z)
    cases this
  rw [Option.map_some, this]
section
variable {X : Cx} {k : Nat} {C : Addr} {sp : Sp}
theorem back_of {Q : VK} {pins : List (Addr × Obj)} {σ : L2.St} {f : Addr} {fd : FuncData} {ps : List Str} {H : Hp} {s : Shared} {u1 u2 : Value} {x y : V} (F : FnOk X.prog X.w X.K X.mg X.base CX0 k f fd ps sp) (hr : Room k X.A) (hb : Binds X.K fd ps [])
    (I : Inv X pins σ H s) (r1 : RelV x u1) (r2 : RelV y u2) (h : sp [x, y] H (fun v H2 => ∃ b, v = .bl b ∧ Q (.bl b) H2) E0) : wpAny (model X.prog X.w) X.A (call (.ref f) [u1, u2]) (PySem.W.CmpBack (EP X pins σ Q)) X.xe s := by
  refine thn (run_fn (us := [u1, u2]) (vs := [x, y]) F hr hb .nil pass0 I (.cons r1 (.cons r2 .nil)) h) fun v s1 ⟨z, H1, I1, r1, b, ez, q⟩ => ?_
  subst ez
  cases r1
  exact ⟨.bl b, H1, I1, rfl, q⟩
def rEqL (K : PySem.W.Frag) (C : Addr) (sp : Sp) : R2 := fun x y H Q => ∃ a dx fs, x = .ref a ∧ H a = some (.ins C dx fs) ∧ (Pl H y ∨ ∃ b C' dy gs, y = .ref b ∧ H b = some (.ins C' dy gs) ∧ PySem.W.notFirst K C (.ref C') = true) ∧ sp [x, y] H (fun v H2 => ∃ b, v = .bl b ∧ Q (.bl b) H2) E0
theorem op_eqL (G : MethOk X.prog X.w X.K X.mg X.base k C "__eq__" sp) (hr : Room k X.A) : OpR X (compareOp .Eq) (rEqL X.K C sp) := by
  obtain ⟨f, fd, ps, FF, hm, hb, c⟩ := G.ex
  intro pins s σ H x y v u Q I rx ry h
  obtain ⟨a, dx, fs, rfl, ha, hy, h⟩ := h
  obtain rfl : v = Value.ref a := rx
  obtain ⟨m, fr⟩ := I.fr
  obtain ⟨mA, O, _⟩ := ins_get I.hok ha
  obtain ⟨od, J, _⟩ := O.look
  show wpAny (model X.prog X.w) X.A (richCompare .Eq (.ref a) u) (EP X pins σ Q) X.xe s
  have go := back_of (Q := Q) FF hr hb I (show RelV (.ref a) (.ref a) from rfl) ry h
  have fin : ∀ t, TyOf X.K H y (.type t) → (∃ l, fastBuiltinMro t = some l ∧ l.all (fun v => !onTheHeap v) = true) → wpAny (model X.prog X.w) X.A (richCompare .Eq (.ref a) u) (EP X pins σ Q) X.xe s := fun t ht ⟨l, e1, e2⟩ => by
    obtain ⟨P, Z, p, _⟩ := kit_of I ry (.base ht)
    exact PySem.W.cmp_K (op := .Eq) (tb := .type t) hr.units0 fr I.ok.mod.kin J (Z.ty _ _ I.kIn p) (Bool.or_eq_true_iff.mpr (.inr (beq_iff_eq.mpr (subTy e1 e2)))) hm.at_ hm.fn go
  rcases hy with hy | ⟨b, C', dy, gs, rfl, hb', hn⟩
  · cases hy with
    | non => exact fin _ .non ⟨_, rfl, by decide +kernel⟩
    | int i => exact fin _ (.int i) ⟨_, rfl, by decide +kernel⟩
    | bl i => exact fin _ (.bl i) ⟨_, rfl, by decide +kernel⟩
    | str i => exact fin _ (.str i) ⟨_, rfl, by decide +kernel⟩
    | tup h' => exact fin _ (.tup h') ⟨_, rfl, by decide +kernel⟩
    | lst h' => exact fin _ (.lst h') ⟨_, rfl, by decide +kernel⟩
  · obtain rfl : u = Value.ref b := ry
    obtain ⟨mB, O', _⟩ := ins_get I.hok hb'
    obtain ⟨od', J', _⟩ := O'.look
    exact PySem.W.cmp_K (op := .Eq) (tb := .ref C') hr.units0 fr I.ok.mod.kin J J'.type hn hm.at_ hm.fn go
def rEqR (C : Addr) (sp : Sp) : R2 := fun x y H Q => ∃ a dx fs, y = .ref a ∧ H a = some (.ins C dx fs) ∧ Pl H x ∧ sp [y, x] H (fun v H2 => ∃ b, v = .bl b ∧ Q (.bl b) H2) E0
theorem op_eqR (G : MethOk X.prog X.w X.K X.mg X.base k C "__eq__" sp) (hr : Room k X.A) (nt : noTy X.K C = true) : OpR X (compareOp .Eq) (rEqR C sp) := by
  obtain ⟨f, fd, ps, FF, hm, hb, c⟩ := G.ex
  intro pins s σ H x y v u Q I rx ry h
  obtain ⟨a, dx, fs, rfl, ha, hx, h⟩ := h
  obtain rfl : u = Value.ref a := ry
  obtain ⟨m, fr⟩ := I.fr
  obtain ⟨mA, O, _⟩ := ins_get I.hok ha
  obtain ⟨od, J, _⟩ := O.look
  have ho := O.obj
  have go := back_of (Q := Q) FF hr hb I (show RelV (.ref a) (.ref a) from rfl) rx h
  have nt' := fun T hT => noTy_at nt (T := T) hT
  show wpAny (model X.prog X.w) X.A (richCompare .Eq v (.ref a)) (EP X pins σ Q) X.xe s
  cases hx with
  | non =>
    obtain rfl : v = Value.none := rx
    exact rc_back (T := "NoneType") rfl I.kIn J (nt' _ (by simp)) PySem.F.slot_NoneType_eq_refl hr.units0 (fun Q' q => call_gives PySem.F.slot_NoneType_eq_refl rfl PySem.F.entry_NoneType_eq (PySem.F.args_NoneType_eq_2 _ _) (PySem.SeqAt.NoneType___eq___none_ref_0 a) q) hm.at_ hm.fn go
  | int i =>
    obtain ⟨t, rfl⟩ := (show ∃ t, v = Value.int i t from rx)
    exact rc_back (T := "int") rfl I.kIn J (nt' _ (by simp)) PySem.F.slot_int_eq hr.units0 (fun Q' q => GQ.call_here PySem.F.slot_int_eq rfl PySem.F.entry_int_eq (PySem.F.args_int_eq_2 _ _) (dec_int i t ho q)) hm.at_ hm.fn go
  | bl i =>
    obtain rfl : v = Value.bool i := rx
    exact rc_back (T := "bool") rfl I.kIn J (nt' _ (by simp)) PySem.F.slot_bool_eq hr.units0 (fun Q' q => GQ.call_here PySem.F.slot_bool_eq rfl PySem.F.entry_int_eq (PySem.F.args_int_eq_2 _ _) (dec_bool i ho q)) hm.at_ hm.fn go
  | str i =>
    obtain ⟨t, rfl⟩ := (show ∃ t, v = Value.str i t from rx)
    exact rc_back (T := "str") rfl I.kIn J (nt' _ (by simp)) PySem.F.slot_str_eq hr.units0 (fun Q' q => GQ.call_here PySem.F.slot_str_eq rfl PySem.F.entry_str_eq (PySem.F.args_str_eq_2 _ _) (dec_str i t ho q)) hm.at_ hm.fn go
  | @tup b xs hb' =>
    obtain rfl : v = Value.ref b := rx
    obtain ⟨_, _, _, o, h1, h2, _⟩ := (show ObjOk X.prog X.w H s.heap b (.tup xs) from I.hok b _ hb')
    exact rc_back (T := "tuple") ⟨o, h1, h2⟩ I.kIn J (nt' _ (by simp)) PySem.F.slot_tuple_eq hr.units0 (fun Q' q => GQ.call_here PySem.F.slot_tuple_eq ⟨o, h1, h2⟩ PySem.F.entry_tuple_eq (PySem.F.args_tuple_eq_2 _ _) (dec_tuple ho (PySem.W.looks_subIn I.kIn (nt' _ (by simp))) q)) hm.at_ hm.fn go
  | @lst b xs hb' =>
    obtain rfl : v = Value.ref b := rx
    obtain ⟨_, _, n, _, h1⟩ := (show ObjOk X.prog X.w H s.heap b (.lst xs) from I.hok b _ hb')
    exact rc_back (T := "list") ⟨_, h1, rfl⟩ I.kIn J (nt' _ (by simp)) PySem.F.slot_list_eq hr.units0 (fun Q' q => GQ.call_here PySem.F.slot_list_eq ⟨_, h1, rfl⟩ PySem.F.entry_list_eq (PySem.F.args_list_eq_2 _ _) (dec_list ho (PySem.W.looks_subIn I.kIn (nt' _ (by simp))) q)) hm.at_ hm.fn go
end
end My
namespace My
open PySem PySem.Spec PyProof.Rows L2
open PySem.AutoSeq1 (wpAny_loadPart')
theorem meets_enumerate_newT (l : Addr) (items : Array Value) (n : Nat) (dct : Option Addr) (sl : Array (Option Value)) :
    Meets (Builtin.«enumerate.__new__» ⟨[.type "enumerate", .ref l], []⟩) (fun _ R s => s.heap.get? l = some { cls := .type "tuple", dict := dct, data := .seq items n, slots := sl } ∧
      R (.ok (.ret (.ref (s.heap.push { cls := .type "tuple_iterator", data := .fields #[.ref l, .int 0 0] }).objs.size)))
        { s with heap := (s.heap.push { cls := .type "tuple_iterator", data := .fields #[.ref l, .int 0 0] }).push { cls := .type "enumerate", data := .fields #[.none, .bool false, .ref s.heap.objs.size, rawInt 0, .none, .none] } }) :=
  .of_wp fun prog w A R s h => by
    obtain ⟨hp, g, d, tk, os⟩ := s; obtain ⟨hl, h⟩ := h
    have hsub := sub_enumerate
    have hL : Heap.IsTuple (Shared.heap ⟨hp, g, d, tk, os⟩) l items := ⟨_, hl, rfl, n, rfl⟩
    wp_walk using wpAny_loadPart' hl
    refine wpAny_stack_any fun st => wpAny_pure ?_
    split
    · rename_i c _ _ _ _ _
      cases (c == Value.type "enumerate")
      · wp_walk using wpAny_loadPart' hl, wpAny_pyIter_tuple hL
        exact ⟨_, rfl, h⟩
      · wp_walk using wpAny_loadPart' hl, wpAny_pyIter_tuple hL
        exact ⟨_, rfl, h⟩
    · wp_walk using wpAny_loadPart' hl, wpAny_pyIter_tuple hL
      exact ⟨_, rfl, h⟩
theorem call_enumerate_tup {prog : Program} {w : World} {A : Around} {E : Value → Shared → Prop} {s : Shared} {l : Addr} {items : Array Value} {Q : Value → Shared → Prop} (hL : s.heap.IsTuple l items)
    (h : ∀ h', IsEnum h' (s.heap.objs.size + 1) s.heap.objs.size 0 .none → h'.IsTupleIter s.heap.objs.size l 0 → h'.objs.size = s.heap.objs.size + 2 →
      (∀ b o, s.heap.get? b = some o → h'.get? b = some o) → Q (.ref (s.heap.objs.size + 1)) { s with heap := h' }) :
    wpAny (model prog w) A (call (.type "enumerate") [.ref l]) Q E s := by
  obtain ⟨⟨c, dct, dt, sl⟩, hl, hc, n, hd⟩ := hL
  replace hc : c = .type "tuple" := hc
  replace hd : dt = .seq items n := hd
  subst hc hd
  refine callType_new PySem.F.called_enumerate (by decide) (PySem.F.typeCall_enumerate_1 _) (PySem.F.newCall_enumerate_1 _) (fun obj => PySem.F.args_object_init_2 obj _) PySem.F.entry_enumerate_new
    (meets_enumerate_newT l items n dct sl) ⟨hl, ?_⟩
  have hz : (s.heap.push { cls := .type "tuple_iterator", data := .fields #[.ref l, .int 0 0] }).objs.size = s.heap.objs.size + 1 := Heap.size_push ..
  show _ ∧ _
  rw [hz]
  have he : IsEnum ((s.heap.push { cls := .type "tuple_iterator", data := .fields #[.ref l, .int 0 0] }).push
      { cls := .type "enumerate", data := .fields #[.none, .bool false, .ref s.heap.objs.size, rawInt 0, .none, .none] }) (s.heap.objs.size + 1) s.heap.objs.size 0 .none := by
    have := Heap.get?_push_size (s.heap.push { cls := .type "tuple_iterator", data := .fields #[.ref l, .int 0 0] })
      (o := { cls := .type "enumerate", data := .fields #[.none, .bool false, .ref s.heap.objs.size, rawInt 0, .none, .none] }) rfl
    rw [hz] at this; exact this
  refine ⟨⟨_, he, rfl⟩, h _ he ⟨_, Heap.get?_push_of_some _ (Heap.get?_push_size _ rfl), rfl, rfl⟩ (by rw [Heap.size_push, hz]) fun b o x => Heap.get?_push_of_some _ (Heap.get?_push_of_some _ x)⟩
def IteT (K : PySem.W.Frag) (a : Addr) : It :=
  ⟨fun i H => ∃ (xs : List V) (x : V), SqT K H a xs ∧ xs[i]? = some x, fun i H v H' => ∃ T x, v = .ref T ∧ H T = none ∧ H' = upd H T (.tup [.int (i : Nat), x]) ∧ ∀ xs, SqT K H a xs → xs[i]? = some x, fun i H => ∃ xs : List V, SqT K H a xs ∧ xs.length ≤ i⟩
theorem turn_enumT {P : Program} {w : World} {K : PySem.W.Frag} {elts : List Expr} {kk : Nat} {tpos : Pos} (a e it : Addr) :
    Turn P w K (.Tuple elts kk tpos) (IteT K a) [e, it] e (fun i h => (∃ old, IsEnum h e it ((i : Nat) : Int) old) ∧ h.IsTupleIter it a i ∧ e ≠ it) where
  mem := by simp
  obj := fun i h st b hb => by
    obtain ⟨⟨old, he⟩, ⟨o, ho, hc, hd⟩, _⟩ := st
    have e' : b = e ∨ b = it := by simpa using hb
    rcases e' with z | z
    · rw [z]; exact ⟨_, he, fun v q => nomatch q⟩
    · rw [z]; exact ⟨o, ho, fun v q => by rw [hd] at q; cases q⟩
  keep := fun i h h' st k => let ⟨⟨old, he⟩, hi, hne⟩ := st; ⟨⟨old, k e (by simp) _ he⟩, hi.at fun o q => k it (by simp) o q, hne⟩
  item := by
    intro X hP hw hK hc i pins s σ H E I hf st hg
    subst hP hw hK
    obtain ⟨⟨old, he⟩, hit, hne⟩ := st
    obtain ⟨xs, x, hq, hx⟩ := hg
    obtain ⟨its, rv, p, hz⟩ := I.tuple hq
    obtain ⟨u, hu, ru⟩ := rv.get hx
    have hel : e < s.heap.objs.size := Heap.lt_size he
    have hil : it < s.heap.objs.size := by obtain ⟨_, q, _⟩ := hit; exact Heap.lt_size q
    have pt : s.heap.IsTuple a its.toArray := p
    have nai : a ≠ it := by
      rintro rfl
      obtain ⟨o1, h1, c1, _⟩ := hit
      obtain ⟨o2, h2, c2, _⟩ := pt
      rw [h1] at h2
      cases h2
      rw [c1] at c2
      exact absurd (Value.type.inj c2) (by decide)
    have nea : e ≠ a := by
      rintro rfl
      obtain ⟨o2, h2, c2, _⟩ := pt
      have := he.symm.trans h2
      cases this
      exact absurd (Value.type.inj c2) (by decide)
    have hlt : i < its.toArray.size := by
      have := (List.getElem?_eq_some_iff.mp hu).1
      simpa using this
    refine wpAny_pyNext_enum_itemD (n := its.toArray.size) (Draws.tuple (A := X.A.in1) (show X.A.in1.handled = none from I.ok.hd hc) it a nai its.toArray) he ⟨hit, pt⟩ hlt hne (by simp [hne, nea]) fun y h' tk hy ho hst' hT hsz hk => ?_
    obtain ⟨hit', pt'⟩ := hst'
    have ey : y = u := by
      have h1 : its.toArray[i]? = some u := by simpa using hu
      exact Option.some.inj (hy.symm.trans h1)
    subst ey
    refine ⟨_, rfl, wpAny_letOwnedTupleGo_enum (s := { s with heap := h', toks := tk + 1 }) ho fun h'' he' sb => ?_⟩
    have hT2 : h''.get? s.heap.objs.size = some { cls := .type "tuple", data := .seq #[.int i tk, y] } := (sb.2 _ (Nat.ne_of_gt hel)).trans hT
    have new : ObjOk X.prog X.w (upd H s.heap.objs.size (.tup [.int (i : Nat), x])) h'' s.heap.objs.size (.tup [.int (i : Nat), x]) :=
      ⟨by show 2 ≤ sizeLine; decide, [.int i tk, y], .cons ⟨_, rfl⟩ (.cons ru .nil), ⟨_, hT2, rfl, _, rfl⟩⟩
    have I1 : Inv X pins σ (upd H s.heap.objs.size (.tup [.int (i : Nat), x])) { s with heap := h'', toks := tk + 1 } :=
      I.turnedNew (ch := [e, it]) (fun b ob hb q => (sb.2 b (fun z => hb (by simp [z]))).trans (hk b ob (fun z => hb (by simp [z])) (fun z => hb (by simp [z])) q)) hf (Nat.le_refl _) new
    refine ⟨.ref s.heap.objs.size, _, I1, rfl, ⟨_, x, rfl, I.hok.fresh (Nat.le_refl _), rfl, fun ys hy => by rw [I.tuple_inj hy hq]; exact hx⟩, ⟨⟨y, ?_⟩, hit'.at fun o q => (sb.2 it (Ne.symm hne)).trans q, hne⟩, fun b hb => ?_⟩
    · have e1 : ((i + 1 : Nat) : Int) = (i : Int) + 1 := by omega
      rw [e1]; exact he'
    · have hb' : b < s.heap.objs.size := by
        have e' : b = e ∨ b = it := by simpa using hb
        rcases e' with z | z
        · rw [z]; exact hel
        · rw [z]; exact hil
      rw [upd_ne (Nat.ne_of_lt hb')]
      exact (hf b hb).1
  done := by
    intro X hP hw hK hc i pins s σ H E I hf st hg
    subst hP hw hK
    obtain ⟨⟨old, he⟩, hit, hne⟩ := st
    obtain ⟨xs, hq, hx⟩ := hg
    obtain ⟨its, rv, p, hz⟩ := I.tuple hq
    obtain ⟨f0, f1, f2, f3, f4, f5⟩ := hf it (by simp)
    have hl := rv.length
    have pt : s.heap.IsTuple a its.toArray := p
    have nai : a ≠ it := by
      rintro rfl
      obtain ⟨o1, h1, c1, _⟩ := hit
      obtain ⟨o2, h2, c2, _⟩ := pt
      rw [h1] at h2
      cases h2
      rw [c1] at c2
      exact absurd (Value.type.inj c2) (by decide)
    have hT : s.TypeIs (.ref e) "enumerate" := ⟨_, he, rfl⟩
    unfold pyNext
    refine wpAny_bind (wpAny_attempt (wpAny_callSpecial?_slot (name := Str.ofString "__next__") hT PySem.F.slot_enumerate_next
      (wpAny_call_entry PySem.F.slot_enumerate_next hT PySem.F.entry_enumerate_next ?_ (PySem.F.args_enumerate_next_1 _))))
    show wpAny _ _ (field (.ref e) 2 >>= _) _ _ _
    refine wpAny_bind (wpAny_field he rfl (x := .ref it) rfl ?_)
    refine wpAny_bind (wpAny_nextOf_tuple_end (show X.A.in1.handled = none from I.ok.hd hc) hit pt (by simp; omega) fun h' x he' hx' => ?_)
    obtain ⟨o, ho, hcl⟩ := hx'
    refine wpAny_bind (wpAny_isInstance (T := "StopIteration") (b := true) ⟨o, ho, hcl⟩ isSubtype_stop ?_)
    exact wpAny_pure ⟨rfl, I.turned (t' := s.toks) (fun b o hb e => he' b o hb e) f0 f1 f3 f4 f5⟩
  self := fun A i s Q E st h => let ⟨⟨_, he⟩, _⟩ := st; wpAny_pyIter_enum he h
def iEnumT (K : PySem.W.Frag) (ta : TA) : TI := fun σ H R => ta σ H fun vs H1 => ∃ a xs, vs = [.ref a] ∧ SqT K H1 a xs ∧ R (IteT K a) H1
theorem pi_enumT {X : Cx} {K : PySem.W.Frag} {e : Expr} {ta : TA} {p pos tpos : Pos} {elts : List Expr} {kk : Nat} (hg : Gl X "enumerate") (hm : X.mg "enumerate" = none) (ha : PA X [e] ta) (hK : X.K = K := by rfl) (hs : starEach [e] X.env = [(false, eval e X.env)] := by rfl) :
    PI X (.Tuple elts kk tpos) (.Call (.Name "enumerate" p) [e] [] pos) (iEnumT K ta) := by
  subst hK
  refine ⟨fun pins s σ H R I h => ?_⟩
  refine Call_ (ld_blt I hg hm boot_enumerate (PyProof.Rows.callWith_type1 (thn (ha.run pos pins s σ H _ I h) fun us s1 ⟨vs, H1, I1, r1, q1⟩ => ?_) hs rfl))
  obtain ⟨a, xs, ex, hq, q⟩ := q1
  subst ex
  cases r1 with
  | cons r rr =>
    cases rr
    cases r
    obtain ⟨its, rv, p', hz⟩ := I1.tuple hq
    refine call_enumerate_tup (show s1.heap.IsTuple a its.toArray from p') fun h' he hit hsz hk => wpAny_pyIter_enum he ?_
    have I2 : Inv X pins σ H1 { s1 with heap := h' } := I1.kept (t' := s1.toks) hk
    refine ⟨s1.heap.objs.size + 1, [s1.heap.objs.size + 1, s1.heap.objs.size], _, _, H1, rfl, I2, turn_enumT a (s1.heap.objs.size + 1) s1.heap.objs.size, ⟨⟨.none, he⟩, hit, Nat.succ_ne_self _⟩, fun b hb => ?_, q⟩
    have e' : b = s1.heap.objs.size + 1 ∨ b = s1.heap.objs.size := by simpa using hb
    have hle : s1.heap.objs.size ≤ b := by
      rcases e' with z | z
      · rw [z]; exact Nat.le_add_right _ _
      · rw [z]; exact Nat.le_refl _
    exact I1.fpOk hle (I1.hok.fresh hle)
def rListS : List V → Hp → VK → Prop := fun xs H Q => ∃ w : Str, xs = [.str w] ∧ w.length ≤ 1000 ∧ ∀ p, H p = none → Q (.ref p) (upd H p (.lst (w.cps.toList.map fun c => V.str ⟨#[c]⟩)))
theorem call_listS {X : Cx} (hc : X.calm = true) : CallR X (.type "list") rListS := by
  intro pins s σ H xs us Q I r h
  obtain ⟨w, rfl, hl, q⟩ := h
  obtain ⟨u, rfl, rx⟩ := vals1 r
  obtain ⟨t, rfl⟩ := (show ∃ t, u = Value.str w t from rx)
  have hz : w.cps.size ≤ sizeLine := Nat.le_trans hl (by decide)
  refine call_list_str (I.ok.hd hc) w t (fun h' tk acc c' hkeep hS hacc => ?_) hz
  refine ⟨.ref s.heap.objs.size, upd H s.heap.objs.size (.lst (w.cps.toList.map fun c => V.str ⟨#[c]⟩)), I.laid hkeep (Nat.le_refl _) (show ObjOk X.prog X.w _ _ _ (.lst _) from ⟨by rw [List.length_map, Array.length_toList]; exact hz, acc.toList, c', ?_, ?_⟩), rfl, q _ (I.hok.fresh (Nat.le_refl _))⟩
  · refine vals_of_at (by rw [List.length_map, Array.length_toList, Array.length_toList]; exact hacc.1.symm) fun j x u h1 h2 => ?_
    obtain ⟨c, t2, hc1, hc2⟩ := hacc.2 j u (by rw [← Array.getElem?_toList]; exact h2)
    rw [List.getElem?_map, Array.getElem?_toList, hc1] at h1
    cases h1
    exact ⟨t2, hc2⟩
  · rw [Array.toArray_toList]; exact hS
def cutL {α : Type} (xs : List α) (lo hi : Option Int) : List α := (xs.drop (HT.sIx xs.length 0 lo)).take (HT.sIx xs.length xs.length hi - HT.sIx xs.length 0 lo)
theorem TdAll.cut {H : Hp} {xs : List V} {ds : List PyData} (h : TdAll H xs ds) (lo hi : Option Int) : TdAll H (cutV xs lo hi) (cutL ds lo hi) := by
  unfold cutV cutL
  rw [← h.length]
  generalize HT.sIx xs.length 0 lo = a
  generalize HT.sIx xs.length xs.length hi - a = b
  have d : ∀ {xs : List V} {ds : List PyData} (k : Nat), TdAll H xs ds → TdAll H (xs.drop k) (ds.drop k) := by
    intro xs ds k h
    induction k generalizing xs ds with
    | zero => exact h
    | succ k ih =>
      cases h with
      | nil => exact .nil
      | cons a r => exact ih r
  have t : ∀ {xs : List V} {ds : List PyData} (k : Nat), TdAll H xs ds → TdAll H (xs.take k) (ds.take k) := by
    intro xs ds k h
    induction k generalizing xs ds with
    | zero => exact .nil
    | succ k ih =>
      cases h with
      | nil => exact .nil
      | cons a r => exact .cons a (ih r)
  exact t b (d a h)
def rSlD : V → Option Int → Option Int → Hp → VK → Prop := fun x lo hi H Q => ∃ ds, Td H x (.tuple ds) ∧ ∀ v H', Same H H' → Td H' v (.tuple (cutL ds lo hi)) → Q v H'
theorem sl_tupD {X : Cx} : SlR X rSlD := by
  intro pins s σ H x v vl vu lo hi sl Q I rx hs pl pu h
  obtain ⟨ds, hT, q⟩ := h
  obtain ⟨a, xs, rfl, ha, hx⟩ := hT.tup_inv
  refine sl_tupA pins s σ H _ v vl vu lo hi sl Q I rx hs pl pu ⟨a, xs, rfl, SqT.of ha, fun hw => ?_, fun _ p hp => ?_⟩
  · have e : cutL ds lo hi = ds := by
      unfold cutL
      rw [← hx.length, hw.1, hw.2, List.drop_zero, Nat.sub_zero, hx.length, List.take_length]
    refine q _ _ (Same.refl H) ?_
    rw [e]
    exact .tup ha hx
  · have t1 := Same.upd (o := .tup (cutV xs lo hi)) (Same.refl H) hp
    exact q _ _ t1 (.tup upd_same ((hx.cut lo hi).mono (KT.of t1)))
def rCatD : R2 := fun x y H Q => ∃ ds es, Td H x (.tuple ds) ∧ Td H y (.tuple es) ∧ ds.length + es.length ≤ 1000 ∧ ∀ v H', Same H H' → Td H' v (.tuple (ds ++ es)) → Q v H'
theorem op_catD {X : Cx} : OpR X (binaryOp .Add) rCatD := by
  intro pins s σ H x y v u Q I rx ry h
  obtain ⟨ds, es, hT, hU, hl, q⟩ := h
  obtain ⟨a, xs, rfl, ha, hx⟩ := hT.tup_inv
  obtain ⟨b, ys, rfl, hb, hy⟩ := hU.tup_inv
  refine op_catA pins s σ H _ _ v u Q I rx ry ⟨a, b, xs, ys, rfl, rfl, SqT.of ha, SqT.of hb, ?_, fun h0 => ?_, fun _ h0 => ?_, fun _ _ p hp => ?_⟩
  · rw [hx.length, hy.length]
    exact Nat.le_trans hl (by decide)
  · subst h0
    cases hx
    exact q _ _ (Same.refl H) (.tup hb hy)
  · subst h0
    cases hy
    refine q _ _ (Same.refl H) ?_
    rw [List.append_nil]
    exact .tup ha hx
  · have t1 := Same.upd (o := .tup (xs ++ ys)) (Same.refl H) hp
    exact q _ _ t1 (.tup upd_same ((hx.append hy).mono (KT.of t1)))
end My
namespace My
open PySem PySem.Spec PyProof.Rows L2
structure IsC (K : PySem.W.Frag) (C : Addr) : Prop where
  ca : PySem.W.findIn K (.ref C) "__class__" = some (some (.builtin "object.__class__"))
  cn : PySem.W.specialIn K (.builtin "object.__class__") "__get__" = some (some (.builtin "getset_descriptor.__get__"))
  ct : PySem.W.takesIn K (.builtin "object.__class__") = some true
  cm : PySem.W.mroIn K C (.type "object") = some true
  ty : PySem.W.typeIn K (.ref C) = some (.type "type")
  nt : noTy K C = true
theorem noTy_mk {K : PySem.W.Frag} {C : Addr} (h1 : PySem.W.subIn K (.ref C) (.type "NoneType") = some false) (h2 : PySem.W.subIn K (.ref C) (.type "int") = some false) (h3 : PySem.W.subIn K (.ref C) (.type "bool") = some false)
    (h4 : PySem.W.subIn K (.ref C) (.type "str") = some false) (h5 : PySem.W.subIn K (.ref C) (.type "tuple") = some false) (h6 : PySem.W.subIn K (.ref C) (.type "list") = some false) : noTy K C = true := by
  unfold noTy
  simp only [List.all_cons, List.all_nil, h1, h2, h3, h4, h5, h6, Bool.and_true]
  decide
section
variable {K : PySem.W.Frag} {C C' : Addr} {H : Hp}
theorem IsC.tyx {a dx : Addr} {fs : List (Str × V)} (i : IsC K C) (c : Cls K C) (h : H a = some (.ins C dx fs)) : TyX K H (.ref a) (.ref C) := .base (.ins h c i.ca i.cn i.ct i.cm)
theorem IsC.self (_ : IsC K C) : PySem.W.kitOne K (.ref C) (.ref C) = some true := by
  unfold PySem.W.kitOne
  rw [if_pos (by simp)]
theorem IsC.cls (i : IsC K C) (c : Cls K C) {t : Value} {b : Bool} (ne : (t == Value.ref C) = false) (h : PySem.W.subIn K t (.ref C) = some b) : PySem.W.kitOne K t (.ref C) = some b := by
  unfold PySem.W.kitOne
  rw [if_neg (by rw [ne]; simp)]
  obtain ⟨cd, hc, _⟩ := PySem.W.any_some c.hd
  show (if ((PySem.W.clsIn K C).isSome && PySem.W.typeIn K (.ref C) == some (.type "type")) = true then PySem.W.subIn K t (.ref C) else none) = some b
  rw [hc, i.ty, if_pos (by simp)]
  exact h
theorem Pl.tyx {v : V} (h : Pl H v) : ∃ T, TyX K H v (.type T) ∧ ∃ l, fastBuiltinMro T = some l ∧ l.all (fun v => !onTheHeap v) = true := by
  cases h with
  | non => exact ⟨_, .base .non, _, rfl, by decide +kernel⟩
  | int i => exact ⟨_, .base (.int i), _, rfl, by decide +kernel⟩
  | bl i => exact ⟨_, .base (.bl i), _, rfl, by decide +kernel⟩
  | str i => exact ⟨_, .base (.str i), _, rfl, by decide +kernel⟩
  | tup h => exact ⟨_, .base (.tup h), _, rfl, by decide +kernel⟩
  | lst h => exact ⟨_, .base (.lst h), _, rfl, by decide +kernel⟩
theorem IsC.no (i : IsC K C) (c : Cls K C) {v : V} (h : Pl H v) : ∃ t, TyX K H v t ∧ PySem.W.kitOne K t (.ref C) = some false := by
  obtain ⟨T, h1, l, e1, e2⟩ := h.tyx (K := K)
  exact ⟨_, h1, i.cls c (by rfl) (subTy e1 e2)⟩
theorem IsC.other (i : IsC K C) (c : Cls K C) (i' : IsC K C') (c' : Cls K C') {a dx : Addr} {fs : List (Str × V)} (h : H a = some (.ins C' dx fs)) (e : PySem.W.subIn K (.ref C') (.ref C) = some false) (ne : C' ≠ C) : ∃ t, TyX K H (.ref a) t ∧ PySem.W.kitOne K t (.ref C) = some false :=
  ⟨_, i'.tyx c' h, i.cls c (by simpa using ne) e⟩
end

theorem u65 {k : Nat} {A : Around} (r : Room k A) : A.units + 65 < cLine := by have := r.un; omega
theorem kInD {X : Cx} {K : PySem.W.Frag} (hu : X.A.units + 65 < cLine) (h : X.K = K := by rfl) : OpR X (compareOp .In) (rInD K) := by subst h; exact op_inD hu
structure MethDAt (K : PySem.W.Frag) (C : Addr) (m q : Str) (st : Stmt) (ps : List Str) (dvs : List V) : Prop where
  ex : ∃ f fd, FunD K m q (defArgs st) (defBody st) (defScope st) dvs [] f fd ∧ Meth K C m f ∧ Binds K fd ps [] ∧ ∃ ds, Vals dvs ds ∧ Binds K fd ps ds
structure MakeDOk (P : Program) (w : World) (K : PySem.W.Frag) (mg : Str → Option Value) (base : Heap) (k : Nat) (C : Addr) (x : Str) (dvs : List V) (sp : Sp) : Prop where
  ex : ∃ f fd ps, FnOk P w K mg base CX0 k f fd ps sp ∧ Mk K C f ∧ Binds K fd ps [] ∧ (∃ ds, Vals dvs ds ∧ Binds K fd ps ds) ∧ mg x = some (.ref C)
section
variable {P : Program} {w : World} {K : PySem.W.Frag} {mg : Str → Option Value} {base : Heap} {k n : Nat} {x m q : Str} {C : Addr} {sp : Sp} {N ps : List Str} {st : Stmt} {dvs : List V}
theorem MethDAt.make (D : MethDAt K C "__init__" q st ps dvs) (c : ClassAt K mg C x) (S : FnScope N ps (defScope st)) (len : ∀ vs H Q E, sp vs H Q E → vs.length = ps.length) (b : BodyOk P w K mg base k N q st sp) : MakeDOk P w K mg base (k + 1) C x dvs sp := by
  obtain ⟨f, fd, F, hm, hb, hd⟩ := D.ex
  exact ⟨f, fd, ps, F.ok S len (fun cdv A outer s H vs Q E hr h => by
    obtain ⟨t, h, q⟩ := b f cdv A outer s H vs Q E hr h
    exact ⟨t, h.nox, q⟩), ⟨c.makes, hm.at_, hm.fn, c.kp⟩, hb, hd, c.mg⟩
end
section
variable {X : Cx} {k : Nat} {x : Str} {C : Addr} {sp : Sp} {p pos : Pos} {e : Expr} {es : List Expr} {t : TA} {dvs : List V}
theorem pe_makeDC (G : MakeDOk X.prog X.w X.K X.mg X.base k C x dvs sp) (hr : Room (k + 1) X.A) (ha : PA X (e :: es) t) (hg : Gl X x := by rfl) (hdb : (x == ("__debug__" : Str)) = false := by decide)
    (he : starEach (e :: es) X.env = (false, eval e X.env) :: starEach es X.env := by rfl) (hpl : (backTo pos (starEach es X.env)).any (·.1) = false := by rfl) : PE X (.Call (.Name x p) (e :: es) [] pos) (tMake C sp [] E0 t) := by
  obtain ⟨f, fd, ps, F, hM, hb, _, hm⟩ := G.ex
  exact pe_make hM F hr hg hm hb .nil pass0 ha hdb he hpl
theorem pe_makeD1 (G : MakeDOk X.prog X.w X.K X.mg X.base k C x dvs sp) (hr : Room (k + 1) X.A) (ha : PA X (e :: es) t) (hg : Gl X x := by rfl) (hdb : (x == ("__debug__" : Str)) = false := by decide)
    (he : starEach (e :: es) X.env = (false, eval e X.env) :: starEach es X.env := by rfl) (hpl : (backTo pos (starEach es X.env)).any (·.1) = false := by rfl) : PE X (.Call (.Name x p) (e :: es) [] pos) (tMake C sp dvs E0 t) := by
  obtain ⟨f, fd, ps, F, hM, _, ⟨ds, hd, hb⟩, hm⟩ := G.ex
  exact pe_make hM F hr hg hm hb hd pass0 ha hdb he hpl
end
structure PropAt (K : PySem.W.Frag) (C : Addr) (f q : Str) (st : Stmt) (ps : List Str) : Prop where
  ex : ∃ p g fd, PropOf K C f p g ∧ Fun K f q st g fd ∧ Binds K fd ps []
structure PropOk (P : Program) (w : World) (K : PySem.W.Frag) (mg : Str → Option Value) (base : Heap) (k : Nat) (C : Addr) (f : Str) (sp : Sp) : Prop where
  ex : ∃ p g fd ps, PropOf K C f p g ∧ FnOk P w K mg base CX0 k g fd ps sp ∧ Binds K fd ps [] ∧ Cls K C
theorem PropAt.ok {P : Program} {w : World} {K : PySem.W.Frag} {mg : Str → Option Value} {base : Heap} {k : Nat} {f q : Str} {C : Addr} {sp : Sp} {N ps : List Str} {st : Stmt} (D : PropAt K C f q st ps) (c : Cls K C) (S : FnScope N ps (defScope st)) (len : ∀ vs H Q E, sp vs H Q E → vs.length = ps.length) (b : BodyOk P w K mg base k N q st sp) : PropOk P w K mg base (k + 1) C f sp := by
  obtain ⟨p, g, fd, hp, F, hb⟩ := D.ex
  exact ⟨p, g, fd, ps, hp, F.ok S len (fun cdv A outer s H vs Q E hr h => b g cdv A outer s H vs Q E hr h), hb, c⟩
theorem pe_propC {X : Cx} {k : Nat} {C : Addr} {f : Str} {sp : Sp} {e : Expr} {pos : Pos} {ta : TE} (he : PE X e ta) (G : PropOk X.prog X.w X.K X.mg X.base k C f sp) (hr : Room (k + 1) X.A)
    (hab : attributeBase e f X.env (eval e X.env) = eval e X.env := by rfl) : PE X (.Attribute e f pos) (tProp C sp [] E0 ta) := by
  obtain ⟨p, g, fd, ps, hp, F, hb, c⟩ := G.ex
  exact pe_prop he c hp F hr hb .nil pass0 hab
section
variable {K : PySem.W.Frag} {h : Heap} {mg : Str → Option Value} {C f p T : Addr} {x m q : Str} {st : Stmt} {ps : List Str} {oc : Value} {od an : Option Addr} {osl : Array (Option Value)} {kV doc pm cdv ct : Value} {dvs : List V} {its : List Value} {n : Nat} {o : Obj} {rest : List Value}
theorem methDAt (b0 : ∀ (T : Addr) (kV doc pm : Value) (an : Option Addr) (cdv ct : Value) (us its : List Value), us.length = ps.length → its.length = dvs.length →
      ∃ k, bindArgs (PySem.W.fnOf m q (defArgs st) (defBody st) (defScope st) (.ref T) kV doc pm an cdv ct) ⟨us, []⟩ = seqItems? (.ref T) >>= k ∧ k (some its.toArray) = pure (ps.zip us))
    (b1 : ∀ (T : Addr) (kV doc pm : Value) (an : Option Addr) (cdv ct : Value) (us its : List Value), us.length + dvs.length = ps.length → its.length = dvs.length →
      ∃ k, bindArgs (PySem.W.fnOf m q (defArgs st) (defBody st) (defScope st) (.ref T) kV doc pm an cdv ct) ⟨us, []⟩ = seqItems? (.ref T) >>= k ∧ k (some its.toArray) = pure (ps.zip (us ++ its)))
    (hd : dvs ≠ []) (hle : dvs.length ≤ ps.length)
    (a : PySem.W.findIn K (.ref C) m = some (some (.ref f))) (i : PySem.W.isFn K (.ref f) = true) (l : K.lookup f = some ⟨oc, od, .func (PySem.W.fnOf m q (defArgs st) (defBody st) (defScope st) (.ref T) kV doc pm an cdv ct), osl⟩)
    (c : PySem.W.codeIn K cdv q = true) (k : PySem.W.keepIn K (.ref f) = true) (lT : K.lookup T = some o) (oT : o.data = .seq its.toArray n) (rT : Vals dvs its) : MethDAt K C m q st ps dvs := by
  have F : FunD K m q (defArgs st) (defBody st) (defScope st) dvs [] f (PySem.W.fnOf m q (defArgs st) (defBody st) (defScope st) (.ref T) kV doc pm an cdv ct) :=
    ⟨⟨oc, od, .ref T, kV, doc, pm, an, cdv, ct, osl, rfl, l, c, .inr ⟨hd, T, o, its, n, rfl, lT, oT, rT⟩, .inl rfl⟩, k⟩
  refine ⟨f, _, F, ⟨a, i, k⟩, ?_, ?_⟩
  · obtain ⟨ds, hv, hb⟩ := F.binds1 (ps := ps) ps.length dvs.length hd (by omega) (fun T kV doc pm an cdv ct us its h1 h2 => by
      obtain ⟨k, e1, e2⟩ := b0 T kV doc pm an cdv ct us its h1 h2
      refine ⟨k, e1, ?_⟩
      rw [← h2, List.drop_length, List.append_nil]
      exact e2)
    rw [List.drop_length] at hv
    cases hv
    exact hb
  · exact F.binds1 (ps := ps) (ps.length - dvs.length) 0 hd (by omega) (fun T kV doc pm an cdv ct us its h1 h2 => by
      obtain ⟨k, e1, e2⟩ := b1 T kV doc pm an cdv ct us its (by omega) h2
      exact ⟨k, e1, e2⟩)
theorem propAt (b : ∀ (kV doc pm : Value) (an : Option Addr) (cdv ct : Value) (us : List Value), us.length = ps.length → bindArgs (PySem.W.fnOf m q (defArgs st) (defBody st) (defScope st) .none kV doc pm an cdv ct) ⟨us, []⟩ = pure (ps.zip us))
    (a : PySem.W.findIn K (.ref C) m = some (some (.ref p))) (g : PySem.W.specialIn K (.ref p) "__get__" = some (some (.builtin "property.__get__"))) (t : PySem.W.takesIn K (.ref p) = some true) (r : PySem.W.recIn K p "property" = some (.ref f :: rest))
    (l : K.lookup f = some ⟨oc, od, .func (PySem.W.fnOf m q (defArgs st) (defBody st) (defScope st) .none kV doc pm an cdv ct), osl⟩)
    (c : PySem.W.codeIn K cdv q = true) (k : PySem.W.keepIn K (.ref f) = true) : PropAt K C m q st ps :=
  ⟨p, f, _, ⟨a, g, t, rest, r⟩, fun_mk (st := st) l c k, (fun_mk (st := st) l c k).binds b⟩
theorem tupAt {xs : List V} {a : Addr} {dd : Option Addr} {sl : Array (Option Value)} (l : K.lookup a = some ⟨.type "tuple", dd, .seq its.toArray n, sl⟩) (hl : xs.length ≤ 100) (r : Vals xs its) : ∀ H, SqT K H a xs := fun H =>
  .inr ⟨_, its.toArray, n, l, rfl, rfl, by rw [List.size_toArray, ← r.length]; exact Nat.le_trans hl (by decide), r⟩
end
inductive StepD (pl : Plan) : PyData → Prop where
  | load (n m : Str) (b : Bool) (hn : n ∈ pl.map (·.1)) (hm : m ∈ [("raw" : Str), "blank", "refuse"]) : StepD pl (.tuple [.str "load", .str n, .str m, .bool b])
  | col (w n c : Str) (hw : w ∈ [("patch" : Str), "fill", "sweep"]) (hc : ∃ e ∈ pl, e.1 = n ∧ c ∈ e.2.2.map (·.1)) : StepD pl (.tuple [.str w, .str n, .str c])
def cFlds (sp : Addr) (tv : V) (b : Bool) : List (Str × V) := putF "_kept" (.bl b) (putF "_steps" tv (putF "_schema" (.ref sp) []))
theorem c_ne1 : ¬ (("_kept" : Str) = "_steps") := by decide +kernel
theorem c_ne2 : ¬ (("_kept" : Str) = "_schema") := by decide +kernel
theorem c_ne3 : ¬ (("_steps" : Str) = "_schema") := by decide +kernel
theorem cFlds_k (sp : Addr) (tv : V) (b : Bool) : (cFlds sp tv b).lookup ("_kept" : Str) = some (.bl b) := by
  unfold cFlds
  rw [lookup_putF, if_pos rfl]
theorem cFlds_t (sp : Addr) (tv : V) (b : Bool) : (cFlds sp tv b).lookup ("_steps" : Str) = some tv := by
  unfold cFlds
  rw [lookup_putF, if_neg (fun e => c_ne1 e.symm), lookup_putF, if_pos rfl]
theorem cFlds_s (sp : Addr) (tv : V) (b : Bool) : (cFlds sp tv b).lookup ("_schema" : Str) = some (.ref sp) := by
  unfold cFlds
  rw [lookup_putF, if_neg (fun e => c_ne2 e.symm), lookup_putF, if_neg (fun e => c_ne3 e.symm), lookup_putF, if_pos rfl]
theorem cFlds_no (sp : Addr) (tv : V) (b : Bool) {m : Str} (h1 : ¬ m = "_kept") (h2 : ¬ m = "_steps") (h3 : ¬ m = "_schema") : (cFlds sp tv b).lookup m = none := by
  unfold cFlds
  rw [lookup_putF, if_neg h1, lookup_putF, if_neg h2, lookup_putF, if_neg h3]
  rfl
structure ScrAt (CP CS : Addr) (H : Hp) (p : Addr) (pl : Plan) (ds : List PyData) (b : Bool) : Prop where
  ex : ∃ (dx sp : Addr) (tv : V), H p = some (.ins CP dx (cFlds sp tv b)) ∧ SchAt CS H sp pl ∧ Td H tv (.tuple ds)
  len : ds.length ≤ 20
  st : ∀ d ∈ ds, StepD pl d
theorem ScrAt.same {CP CS p : Addr} {H H' : Hp} {pl : Plan} {ds : List PyData} {b : Bool} (S : ScrAt CP CS H p pl ds b) (e : Same H H') : ScrAt CP CS H' p pl ds b := by
  obtain ⟨dx, sp, tv, h1, h2, h3⟩ := S.ex
  exact ⟨⟨dx, sp, tv, e _ _ h1, h2.same e, h3.kt_same e⟩, S.len, S.st⟩
theorem ScrAt.fr {CP CS p a : Addr} {H H' : Hp} {pl : Plan} {ds : List PyData} {b : Bool} {xs : List V} (S : ScrAt CP CS H p pl ds b) (e : Fr1 a H H') (ha : H a = some (.lst xs)) : ScrAt CP CS H' p pl ds b := by
  obtain ⟨dx, sp, tv, h1, h2, h3⟩ := S.ex
  exact ⟨⟨dx, sp, tv, e _ _ (ne_of h1 ha (by intro z; cases z)) h1, h2.fr e ha, h3.mono (e.kt ha)⟩, S.len, S.st⟩
theorem word_fine (w : Str) (h : cd w ∈ [cd "load", cd "raw", cd "blank", cd "refuse", cd "patch", cd "fill", cd "sweep"]) : Fine 1 (.str w) := Fine.str fun c hc => by
  simp only [List.mem_cons, List.not_mem_nil, or_false] at h
  have go : ∀ l : List Nat, (l.all fun c => decide (c < 0x110000)) = true → cd w = l → c < 0x110000 := fun l hl e => by
    rw [e] at hc
    exact of_decide_eq_true (List.all_eq_true.mp hl c hc)
  rcases h with h | h | h | h | h | h | h <;> exact go _ (by decide +kernel) h
theorem StepD.fine {pl : Plan} {d : PyData} (g : Good pl) (h : StepD pl d) : Fine 2 d := by
  cases h with
  | load n m b hn hm =>
    refine Fine.tup (n := 1) fun d hd => ?_
    simp only [List.mem_cons, List.not_mem_nil, or_false] at hd hm
    rcases hd with rfl | rfl | rfl | rfl
    · exact word_fine _ (by simp)
    · exact (g.names _ hn).fine
    · rcases hm with rfl | rfl | rfl <;> exact word_fine _ (by simp)
    · exact Fine.bool b
  | col w n c hw hc =>
    obtain ⟨e, he, rfl, hc⟩ := hc
    obtain ⟨r, hr, rfl⟩ := List.mem_map.mp hc
    refine Fine.tup (n := 1) fun d hd => ?_
    simp only [List.mem_cons, List.not_mem_nil, or_false] at hd hw
    rcases hd with rfl | rfl | rfl
    · rcases hw with rfl | rfl | rfl <;> exact word_fine _ (by simp)
    · exact (g.nm e he).fine
    · exact ((g.refs e he).nm r hr).fine
theorem steps_fine {pl : Plan} {ds : List PyData} (g : Good pl) (h : ∀ d ∈ ds, StepD pl d) : Fine 3 (.tuple ds) := Fine.tup (n := 2) fun d hd => (h d hd).fine g
theorem for_enumT {K : PySem.W.Frag} {a : Addr} {xs : List V} {g : TG} {tb : TS} {D : Ends} {σ : L2.St} {H : Hp} (Pv : Nat → L2.St → Hp → Prop) (h0 : Pv 0 σ H) (hl : ∀ i σ H, i ≤ xs.length → Pv i σ H → SqT K H a xs)
    (hs : ∀ i x σ H T, xs[i]? = some x → Pv i σ H → H T = none → g (.ref T) σ (upd H T (.tup [.int (i : Nat), x])) fun σ2 H2 => tb { D with nx := Pv (i + 1), ct := Pv (i + 1), bk := D.nx } σ2 H2) (hd : ∀ σ H, Pv xs.length σ H → D.nx σ H) :
    ∃ W : Nat → Nat → L2.St → Hp → Prop, (∃ m, W 0 m σ H) ∧ ∀ i m σ H, W i m σ H →
      ((IteT K a).stop i H ∧ D.nx σ H) ∨ ((IteT K a).go i H ∧ ∃ N : L2.St → Hp → Prop, (∀ σ' H', N σ' H' → ∃ m', m' < m ∧ W (i + 1) m' σ' H') ∧ ∀ x H', (IteT K a).yld i H x H' → g x σ H' fun σ2 H2 => tb { D with nx := N, ct := N, bk := D.nx } σ2 H2) := by
  refine ⟨fun i m σ H => m = xs.length - i ∧ i ≤ xs.length ∧ Pv i σ H, ⟨xs.length, by simp, Nat.zero_le _, h0⟩, ?_⟩
  rintro i m σ H ⟨rfl, hi, p⟩
  have q := hl i σ H hi p
  by_cases hlt : i < xs.length
  · refine .inr ⟨⟨xs, xs[i], q, by simp [hlt]⟩, Pv (i + 1), fun σ' H' p' => ⟨xs.length - (i + 1), by omega, rfl, hlt, p'⟩, fun x H' y => ?_⟩
    obtain ⟨T, x2, rfl, hT, rfl, y⟩ := y
    exact hs i x2 σ H T (y xs q) p hT
  · have e : i = xs.length := by omega
    subst e
    exact .inl ⟨⟨xs, q, Nat.le_refl _⟩, hd σ H p⟩
theorem op_or {X : Cx} {f : Value → Value → Sem Value} {r1 r2 : R2} (h1 : OpR X f r1) (h2 : OpR X f r2) : OpR X f (fun x y H Q => r1 x y H Q ∨ r2 x y H Q) := by
  intro pins s σ H x y v u Q I rx ry h
  rcases h with h | h
  · exact h1 pins s σ H x y v u Q I rx ry h
  · exact h2 pins s σ H x y v u Q I rx ry h
theorem notFirst_self {K : PySem.W.Frag} {C : Addr} : PySem.W.notFirst K C (.ref C) = true := by
  unfold PySem.W.notFirst
  simp
theorem notFirst_of {K : PySem.W.Frag} {C C' : Addr} (h : PySem.W.subIn K (.ref C') (.ref C) = some false) : PySem.W.notFirst K C (.ref C') = true := by
  unfold PySem.W.notFirst
  rw [h]
  simp
end My
namespace My
open PySem PySem.Spec PyProof.Rows L2
theorem cutL_to {α : Type} (xs : List α) (k : Nat) : cutL xs none (some (k : Int)) = xs.take k := by
  unfold cutL
  rw [HT.sIx_none, HT.sIx_nat, List.drop_zero, Nat.sub_zero]
  rcases Nat.le_total k xs.length with h | h
  · rw [Nat.min_eq_left h]
  · rw [Nat.min_eq_right h, List.take_length, List.take_of_length_le h]
theorem cutL_from {α : Type} (xs : List α) (k : Nat) : cutL xs (some (k : Int)) none = xs.drop k := by
  unfold cutL
  rw [HT.sIx_none, HT.sIx_nat]
  rcases Nat.le_total k xs.length with h | h
  · rw [Nat.min_eq_left h, List.take_of_length_le (by rw [List.length_drop]; exact Nat.le_refl _)]
  · rw [Nat.min_eq_right h, List.drop_length, List.drop_of_length_le h]
    simp
theorem cutL_mid {α : Type} (xs : List α) (i j : Nat) (h1 : i ≤ xs.length) (h2 : j ≤ xs.length) : cutL xs (some (i : Int)) (some (j : Int)) = (xs.drop i).take (j - i) := by
  unfold cutL
  rw [HT.sIx_nat, HT.sIx_nat, Nat.min_eq_left h1, Nat.min_eq_left h2]
theorem cutL_last {α : Type} (xs : List α) : cutL xs none (some (-1)) = xs.dropLast := by
  have h : HT.sIx xs.length xs.length (some (-1)) = xs.length - 1 := by
    show (if (-1 : Int) < 0 then ((-1 : Int) + (xs.length : Int)).toNat else min (-1 : Int).toNat xs.length) = _
    rw [if_pos (show (-1 : Int) < 0 by decide)]
    omega
  unfold cutL
  rw [HT.sIx_none, List.drop_zero, Nat.sub_zero, List.dropLast_eq_take, h]
def PSub (pl pl2 : Plan) : Prop := ∀ e ∈ pl, ∃ e2 ∈ pl2, e2.1 = e.1 ∧ ∀ c ∈ e.2.2.map (·.1), c ∈ e2.2.2.map (·.1)
theorem PSub.refl (pl : Plan) : PSub pl pl := fun e he => ⟨e, he, rfl, fun _ h => h⟩
theorem StepD.sub {pl pl2 : Plan} {d : PyData} (s : PSub pl pl2) (h : StepD pl d) : StepD pl2 d := by
  cases h with
  | load n m b hn hm =>
    obtain ⟨e, he, rfl⟩ := List.mem_map.mp hn
    obtain ⟨e2, he2, en, _⟩ := s e he
    exact .load _ m b (List.mem_map.mpr ⟨e2, he2, en⟩) hm
  | col w n c hw hc =>
    obtain ⟨e, he, rfl, hc⟩ := hc
    obtain ⟨e2, he2, en, ec⟩ := s e he
    exact .col w _ c hw ⟨e2, he2, en, ec c hc⟩
theorem set_split {α : Type} {l : List α} {i : Nat} (h : i < l.length) (x : α) : l.take i ++ [x] ++ l.drop (i + 1) = l.set i x := by
  rw [List.set_eq_take_append_cons_drop, if_pos h, List.append_assoc]
  rfl
theorem planD_set {pl : Plan} {i : Nat} (h : i < pl.length) (e : Ent) : PyData.tuple ((pl.map entD).take i ++ [entD e] ++ (pl.map entD).drop (i + 1)) = planD (pl.set i e) := by
  unfold planD
  rw [← set_split h e, List.map_append, List.map_append, List.map_take, List.map_drop]
  rfl
theorem Good.set {pl : Plan} (g : Good pl) {i : Nat} {en e : Ent} (he : pl[i]? = some en) (hn : e.1 = en.1) (hr : GoodRefs (pl.map (·.1)) e.2.2) : Good (pl.set i e) := by
  have hil := (List.getElem?_eq_some_iff.mp he).1
  have hnames : (pl.set i e).map (·.1) = pl.map (·.1) := by
    rw [List.map_set]
    refine List.ext_getElem? fun j => ?_
    rw [List.getElem?_set]
    split
    · rename_i hj
      subst hj
      rw [List.getElem?_map, he, if_pos (by rw [List.length_map]; exact hil)]
      exact congrArg some hn
    · rfl
  refine ⟨by rw [List.length_set]; exact g.lo, by rw [List.length_set]; exact g.hi, fun x hx => ?_, by rw [hnames]; exact g.nd, fun x hx => ?_⟩
  · rcases List.mem_or_eq_of_mem_set hx with h | rfl
    · exact g.nm x h
    · rw [hn]
      exact g.nm en (List.mem_of_getElem? he)
  · rw [hnames]
    rcases List.mem_or_eq_of_mem_set hx with h | rfl
    · exact g.refs x h
    · exact hr
theorem PSub.set {pl : Plan} {i : Nat} {en e : Ent} (he : pl[i]? = some en) (hn : e.1 = en.1) (hc : ∀ c ∈ en.2.2.map (·.1), c ∈ e.2.2.map (·.1)) : PSub pl (pl.set i e) := by
  intro x hx
  obtain ⟨j, hj, rfl⟩ := List.getElem_of_mem hx
  by_cases z : i = j
  · subst z
    obtain ⟨h1, h2⟩ := List.getElem?_eq_some_iff.mp he
    rw [h2]
    exact ⟨e, List.mem_of_getElem? (i := i) (by rw [List.getElem?_set_self h1]), hn, hc⟩
  · exact ⟨pl[j], List.mem_of_getElem? (i := j) (by rw [List.getElem?_set_ne z, List.getElem?_eq_getElem hj]), rfl, fun _ h => h⟩
theorem planD_ins (pl : Plan) (i : Nat) (e : Ent) : PyData.tuple ((pl.map entD).take i ++ [entD e] ++ (pl.map entD).drop i) = planD (pl.take i ++ [e] ++ pl.drop i) := by
  unfold planD
  rw [List.map_append, List.map_append, List.map_take, List.map_drop]
  rfl
theorem ins_perm {α : Type} (l : List α) (i : Nat) (x : α) : (l.take i ++ [x] ++ l.drop i).Perm (x :: l) := by
  rw [List.append_assoc]
  have := List.perm_middle (a := x) (l₁ := l.take i) (l₂ := l.drop i)
  rw [List.take_append_drop] at this
  exact this
theorem Good.perm {pl pl2 : Plan} (p : pl2.Perm pl) (g : Good pl) : Good pl2 := by
  have pn : (pl2.map (·.1)).Perm (pl.map (·.1)) := p.map _
  refine ⟨by rw [p.length_eq]; exact g.lo, by rw [p.length_eq]; exact g.hi, fun e he => g.nm e (p.subset he), pn.nodup_iff.mpr g.nd, fun e he => ?_⟩
  have r := g.refs e (p.subset he)
  exact ⟨r.len, r.nm, fun x hx => pn.symm.subset (r.to x hx), r.nd⟩
theorem PSub.perm {pl pl2 : Plan} (p : pl2.Perm pl) : PSub pl pl2 := fun e he => ⟨e, p.symm.subset he, rfl, fun _ h => h⟩
theorem Good.cons {pl : Plan} (g : Good pl) (h : pl.length < 5) {w : Str} (b : Bool) (nw : Nm w) (hw : w ∉ pl.map (·.1)) : Good ((w, b, []) :: pl) := by
  refine ⟨Nat.succ_pos _, h, fun e he => ?_, List.nodup_cons.mpr ⟨hw, g.nd⟩, fun e he => ?_⟩
  · rcases List.mem_cons.mp he with rfl | he
    · exact nw
    · exact g.nm e he
  · rcases List.mem_cons.mp he with rfl | he
    · exact ⟨Nat.zero_le _, by simp, by simp, List.nodup_nil⟩
    · have r := g.refs e he
      exact ⟨r.len, r.nm, fun x hx => List.mem_cons_of_mem _ (r.to x hx), r.nd⟩
theorem planD_rot (pl : Plan) : PyData.tuple ((pl.map entD).drop 1 ++ (pl.map entD).take 1) = planD (pl.drop 1 ++ pl.take 1) := by
  unfold planD
  rw [List.map_append, List.map_take, List.map_drop]
theorem refsD_ins (rs : List Ref) (i : Nat) (r : Ref) : PyData.tuple ((rs.map refD).take i ++ [refD r] ++ (rs.map refD).drop i) = refsD (rs.take i ++ [r] ++ rs.drop i) := by
  unfold refsD
  rw [List.map_append, List.map_append, List.map_take, List.map_drop]
  rfl
theorem refsD_set {rs : List Ref} {i : Nat} (h : i < rs.length) (r : Ref) : PyData.tuple ((rs.map refD).take i ++ [refD r] ++ (rs.map refD).drop (i + 1)) = refsD (rs.set i r) := by
  unfold refsD
  rw [← set_split h r, List.map_append, List.map_append, List.map_take, List.map_drop]
  rfl
theorem GoodRefs.ins {names : List Str} {rs : List Ref} (g : GoodRefs names rs) (h : rs.length < 3) (i : Nat) {c t : Str} (nc : Nm c) (hc : c ∉ rs.map (·.1)) (ht : t ∈ names) : GoodRefs names (rs.take i ++ [(c, t)] ++ rs.drop i) := by
  have p := ins_perm rs i ((c, t) : Ref)
  refine ⟨by rw [p.length_eq]; exact h, fun r hr => ?_, fun r hr => ?_, (p.map (·.1)).nodup_iff.mpr (List.nodup_cons.mpr ⟨hc, g.nd⟩)⟩
  · rcases List.mem_cons.mp (p.subset hr) with rfl | hr
    · exact nc
    · exact g.nm r hr
  · rcases List.mem_cons.mp (p.subset hr) with rfl | hr
    · exact ht
    · exact g.to r hr
theorem refs_set_names {rs : List Ref} {i : Nat} {r r2 : Ref} (h : rs[i]? = some r) (e : r2.1 = r.1) : (rs.set i r2).map (·.1) = rs.map (·.1) := by
  rw [List.map_set]
  refine List.ext_getElem? fun j => ?_
  rw [List.getElem?_set]
  split
  · rename_i hj
    subst hj
    rw [List.getElem?_map, h, if_pos (by rw [List.length_map]; exact (List.getElem?_eq_some_iff.mp h).1)]
    exact congrArg some e
  · rfl
theorem GoodRefs.set {names : List Str} {rs : List Ref} (g : GoodRefs names rs) {i : Nat} {r r2 : Ref} (h : rs[i]? = some r) (e : r2.1 = r.1) (ht : r2.2 ∈ names) : GoodRefs names (rs.set i r2) := by
  refine ⟨by rw [List.length_set]; exact g.len, fun x hx => ?_, fun x hx => ?_, by rw [refs_set_names h e]; exact g.nd⟩
  · rcases List.mem_or_eq_of_mem_set hx with hx | rfl
    · exact g.nm x hx
    · rw [e]
      exact g.nm r (List.mem_of_getElem? h)
  · rcases List.mem_or_eq_of_mem_set hx with hx | rfl
    · exact g.to x hx
    · exact ht
end My
namespace My
open PySem PySem.Spec PySem.Calls PyProof.Rows L2
open PySem.W in
theorem exCls {prog : Program} {w : World} {A : Around} {E : Value → Shared → Prop} {s : Shared} {K : Frag} {a D : Addr} {oa : Obj} {od : Option Obj} {Q : Option Value → Shared → Prop} (C : ExcC K D)
    (hf : findObj K D od "__class__" = some (.bind (.builtin "getset_descriptor.__get__") (.builtin "object.__class__"))) (Y : K.In s.heap) (J : InstAt s.heap a oa D od) (h : Q (some (.ref D)) { s with toks := s.toks + 1 }) :
    wpAny (model prog w) A (getAttr? (.ref a) "__class__") Q E s := by
  obtain ⟨hp, g, d, t, os⟩ := s
  have T0 := J.type (M := model prog w)
  have T1 := looks_findIn (M := model prog w) Y C.hg
  have T2 := looks_findIn (M := model prog w) Y C.hk
  have T3 := looks_find (M := model prog w) Y J hf
  have ex : Looks (model prog w) hp (isInstance (.ref a) (.type "BaseException")) true := T0.andThen (looks_subIn Y C.hs)
  have n0 : (false && onTheHeap (Value.builtin "BaseException.__getattribute__")) = false := rfl
  have n2 : (Value.builtin "BaseException.__getattribute__" == Value.builtin "object.__getattribute__") = false := by decide +kernel
  have n1 : (onTheHeap (Value.ref D) && Value.builtin "BaseException.__getattribute__" == Value.builtin "object.__getattribute__") = false := by rw [n2]; rfl
  unfold getAttr? getAttrBy? getAttrBy
  refine wpAny_bind (wpAny_mkText (wpAny_bind (wpAny_attempt (wpAny_holding (wpAny_bind (T0.at (wpAny_bind (T1.at ?_))))))))
  show wpAny _ _ (if (onTheHeap (Value.ref D) && Value.builtin "BaseException.__getattribute__" == Value.builtin "object.__getattribute__") = true then _ else _) _ _ _
  rw [n1, if_neg Bool.false_ne_true]
  unfold getAttrByItsOwn hookBefore; refine wpAny_bind ?_
  rw [if_pos (show onTheHeap (Value.ref D) = true from rfl)]; refine T2.at ?_
  refine wpAny_bind (wpAny_attempt (wpAny_holding ?_)); unfold callGetattribute
  rw [n0, if_neg Bool.false_ne_true]; unfold boundAndCalled
  rw [PySem.F.excAttr_ValueError.ga.bind (.ref a)]; refine wpAny_bind (wpAny_pure ?_)
  show wpAny _ _ (call (.builtin "BaseException.__getattribute__") [.ref a, .str "__class__" t]) _ _ _
  refine wpAny_call (codeAny_call_builtin PySem.F.excAttr_ValueError.ga.plain PySem.F.entry_bexc_ga ?_)
  refine @check_slot (model prog w) _ _ ⟨hp, g, d, t + 1, os⟩ "BaseException.__getattribute__" "BaseException" "__getattribute__" (.ref a) [.str "__class__" t] [] _ (by decide +kernel) (by decide +kernel) ex (PySem.F.args_bexc_ga (.ref a) (.str "__class__" t)) ?_
  unfold Builtin.«object.__getattribute__»
  refine wpAny_bind (wpAny_of_eq (a := ((Value.ref a : Value), [Value.str "__class__" t])) (by first | rfl | (simp only [slotArgs]; rfl)) ?_)
  refine wpAny_bind (wpAny_pure (wpAny_bind (T0.at (wpAny_bind (T3.at ?_)))))
  show wpAny _ _ (holding [Value.builtin "object.__class__"] (call (.builtin "getset_descriptor.__get__") [.builtin "object.__class__", .ref a, .ref D]) >>= ret) _ _ _
  refine wpAny_bind (wpAny_holding (wpAny_call (class_get (s := ⟨hp, g, d, t + 1, os⟩) (ox := oa) (od := od) Y J C.hm ?_)))
  refine wpAny_pure ?_
  show wpAny _ _ (handedOut (.ref D)) _ _ _
  rw [handedOut_of (v := .ref D) rfl]
  first
    | exact wpAny_pure (wpAny_pure h)
    | exact wpAny_pure h
    | exact wpAny_pure (wpAny_bind (wpAny_pure (wpAny_pure h)))
open PySem.W in
theorem exKit {K : Frag} {a D : Addr} {oa : Obj} {od : Option Obj} (C : ExcC K D) (hf : findObj K D od "__class__" = some (.bind (.builtin "getset_descriptor.__get__") (.builtin "object.__class__"))) :
    KitX K (.ref a) (.ref D) (fun h => InstAt h a oa D od) where
  ty := fun _ _ _ J => J.type
  it := fun _ _ Y _ => by
    obtain ⟨cd, hc, _⟩ := any_some C.hd
    unfold clsIn at hc
    split at hc
    · rename_i ho
      intro A' Q' E' s' k q
      unfold isType loadHead; exact wpAny_bind (wpAny_loadPart (k _ _ (Y _ _ ho)) (wpAny_pure q))
    · cases hc
  ne := fun h tp dd its n sl Y htp => by
    obtain ⟨cd, hc, _⟩ := any_some C.hd
    refine Bool.eq_false_iff.mpr fun q => ?_
    have e : D = tp := Value.ref.inj (beq_iff_eq.mp q)
    subst e
    unfold clsIn at hc
    split at hc
    · rename_i ho
      cases (Y _ _ ho).symm.trans htp
    · cases hc
  ca := fun Y J k => exCls C hf Y J k
def ExD (d : Option Addr) (H : Hp) : Prop := d = none ∨ ∃ dd fs, d = some dd ∧ H dd = some (.xd fs)
theorem exAt {X : Cx} {pins : List (Addr × Obj)} {σ : L2.St} {H : Hp} {s : Shared} {a D : Addr} {oe : Obj} {d : Option Addr} (C : ExcC X.K D) (hp : (a, oe) ∈ X.pn) (hz : Zc (.ref D) d oe) (hf : ∃ vs, oe.data = .fields vs) (I : Inv X pins σ H s) (hd : ExD d H) :
    ∃ od, PySem.W.KitX X.K (.ref a) (.ref D) (fun h => PySem.W.InstAt h a oe D od) ∧ PySem.W.InstAt s.heap a oe D od := by
  obtain ⟨ha, _⟩ := I.pin (a, oe) (List.mem_append_left _ hp)
  obtain ⟨vs, hv⟩ := hf
  have hn : (PySem.W.clsIn X.K D).isSome = true := by
    obtain ⟨cd, hc, _⟩ := PySem.W.any_some C.hd
    rw [hc]; rfl
  rcases hd with rfl | ⟨dd, fs, rfl, hdd⟩
  · refine ⟨none, exKit C (PySem.W.findObj_dataN hn C.ha C.hn C.ht), ha, hz.1, by unfold PySem.W.notCls; rw [hv] <;> rfl, ?_⟩
    rw [hz.2]; trivial
  · obtain ⟨mA, hns, hr⟩ := (show ObjOk X.prog X.w H s.heap dd (.xd fs) from I.hok dd _ hdd)
    obtain ⟨od, ho, hl⟩ := lookIn_ns hns
    refine ⟨some od, exKit C (PySem.W.findObj_data hn C.ha C.hn C.ht), ha, hz.1, by unfold PySem.W.notCls; rw [hv] <;> rfl, ?_⟩
    rw [hz.2]; exact ho
def rIsP (K : PySem.W.Frag) (a : Addr) (cls : Value) (d : Option Addr) : List V → Hp → VK → Prop := fun xs H Q => ∃ (D : Addr) (c : V) (u : Value) (b : Bool), xs = [.ref a, c] ∧ cls = .ref D ∧ ExcC K D ∧ ExD d H ∧ ClsV c u ∧ PySem.W.kitOne K (.ref D) u = some b ∧ Q (.bl b) H
def rIsPT (K : PySem.W.Frag) (a : Addr) (cls : Value) (d : Option Addr) : List V → Hp → VK → Prop := fun xs H Q => ∃ (D tp : Addr) (cs : List V) (us : List Value) (b : Bool), xs = [.ref a, .ref tp] ∧ cls = .ref D ∧ ExcC K D ∧ ExD d H ∧ H tp = some (.tup cs) ∧ Paired ClsV cs us ∧ PySem.W.kitAny K (.ref D) us = some b ∧ Q (.bl b) H
section
variable {X : Cx} {a : Addr} {oe : Obj} {cls : Value} {d : Option Addr}
theorem call_isP (hp : (a, oe) ∈ X.pn) (hz : Zc cls d oe) (hf : ∃ vs, oe.data = .fields vs) : CallR X (.builtin "isinstance") (rIsP X.K a cls d) := by
  intro pins s σ H xs us Q I r h
  obtain ⟨D, c, u, b, rfl, rfl, C, hd, k, e, q⟩ := h
  obtain ⟨u1, u2, rfl, r1, r2⟩ := vals2 r
  cases (show u1 = Value.ref a from r1)
  have e2 := k.eq r2
  subst e2
  obtain ⟨od, Z, J⟩ := exAt C hp hz hf I hd
  exact PySem.W.kia_one Z I.kIn J e (fun z => nomatch z) fun tk => ⟨.bl b, H, I.tok tk, rfl, q⟩
theorem call_isPT (hp : (a, oe) ∈ X.pn) (hz : Zc cls d oe) (hf : ∃ vs, oe.data = .fields vs) : CallR X (.builtin "isinstance") (rIsPT X.K a cls d) := by
  intro pins s σ H xs us Q I r h
  obtain ⟨D, tp, cs, ws, b, rfl, rfl, C, hd, hT, k, e, q⟩ := h
  obtain ⟨u1, u2, rfl, r1, r2⟩ := vals2 r
  cases (show u1 = Value.ref a from r1)
  cases (show u2 = Value.ref tp from r2)
  obtain ⟨od, Z, J⟩ := exAt C hp hz hf I hd
  obtain ⟨_, its, rv, ⟨oc, od2, dt, sl⟩, h1, h2, n, h3⟩ := (show ObjOk X.prog X.w H s.heap tp (.tup cs) from I.hok tp _ hT)
  have e3 := ClsV.all k rv
  subst e3
  simp only at h2 h3
  subst h2 h3
  exact PySem.W.kia_tup Z I.kIn J h1 e (fun z => nomatch z) fun tk => ⟨.bl b, H, I.tok tk, rfl, q⟩
end
abbrev SpE := Addr → Value → Option Addr → Sp
structure FnE (P : Program) (w : World) (K : PySem.W.Frag) (mg : Str → Option Value) (base : Heap) (k : Nat) (f : Addr) (fd : FuncData) (ps : List Str) (sp : SpE) : Prop where
  len : ∀ a c d vs H Q E, sp a c d vs H Q E → vs.length = ps.length
  run : ∀ (A : Around) (outer : List Env) (s : Shared) (H : Hp) (args : Args) (us : List Value) (vs : List V) (Q : VK) (E : XK) (p : Addr × Obj) (c : Value) (d : Option Addr), L2H.RoomH k A → L2H.PinOk outer H s p → Zc c d p.2 → (∃ z, p.2.data = .fields z) →
    Env0 P w K mg base A outer s H → BindsTo s fd args (ps.zip us) → Vals vs us → sp p.1 c d vs H Q E → codeAny (model P w) A (.call (.ref f) args) (CR CX0 outer P w H s Q E) s
theorem PSs.nox2 {X : Cx} {st : List Stmt} {t : TS} (h : PSs { X with xe := fun _ _ => False } st t) : PSs X st t := PSs.nox h
def BodyE (P : Program) (w : World) (K : PySem.W.Frag) (mg : Str → Option Value) (base : Heap) (k : Nat) (N : List Str) (q : Str) (st : Stmt) (sp : SpE) : Prop :=
  ∀ (f : Addr) (cdv : Value) (A : Around) (outer : List Env) (s : Shared) (H : Hp) (vs : List V) (Q : VK) (E : XK) (p : Addr × Obj) (c : Value) (d : Option Addr), Zc c d p.2 → (∃ z, p.2.data = .fields z) → L2H.RoomH k (A.deeper (envOfC q (defScope st) s.heap.objs.size f cdv)) → sp p.1 c d vs H Q E →
    ∃ t, PSs (L2H.cxH CX0 P w K mg base N q (defScope st) f cdv A outer s H E p) (defBody st) t ∧ t { nx := fun _ H' => Q .non H', rt := Q } (L2.start N vs) H
theorem Fun.okE {P : Program} {w : World} {K : PySem.W.Frag} {mg : Str → Option Value} {base : Heap} {x q : Str} {st : Stmt} {f : Addr} {fd : FuncData} {N ps : List Str} {k : Nat} {sp : SpE} (F : Fun K x q st f fd) (S : FnScope N ps (defScope st))
    (len : ∀ a c d vs H Q E, sp a c d vs H Q E → vs.length = ps.length) (hbody : BodyE P w K mg base k N q st sp) : FnE P w K mg base (k + 1) f fd ps sp := by
  obtain ⟨oc, od, kV, doc, pm, an, cdv, ct, osl, rfl, lk, hcd⟩ := F.ex
  refine ⟨len, fun A outer s H args us vs Q E p c d hr hpin hz hf e0 hb r hsp => ?_⟩
  have hl := len _ _ _ _ _ _ _ hsp
  have KY : K.In s.heap := e0.mod.kin.keeps fun b o e => (e0.bs b o e).1
  have lm : s.heap.NoLimit := e0.mod.nolimit.keeps fun b o e => (e0.bs b o e).1
  refine codeAny_call_function hr.depth (KY _ _ lk) rfl S.co S.gen rfl (PySem.W.codeRec_of KY hcd) (hb _ _ _ _ ?_)
  refine wpAny_newFunctionEnv_cells S.kind (fun ⟨n, v⟩ hy => ?_) fun env he s1 x => ?_
  · rcases S.par n (List.of_mem_zip hy).1 with k | k
    · exact .inl k
    · exact .inr ⟨k, PySem.W.cellsFrom_some _ _ _ (.inl k)⟩
  subst he
  refine ⟨lm.keeps x.toInCall.keep, codeAny_func ?_⟩
  obtain ⟨t, ht, hq⟩ := hbody f cdv A outer s H vs Q E p c d hz hf (hr.deeper _) hsp
  have I := L2H.inv_startH (CX := CX0) (cd := cdv) (f := f) (qual := q) (E := E) S hpin e0 hl r x
  refine wpAny_mono (ht.run [] s1 (L2.start N vs) H _ I hq) (fun fl s' hs => ?_) fun e s' hs => hs
  cases fl with
  | ret u =>
    obtain ⟨v, σ', H', J, rv, q⟩ := hs
    exact ⟨v, H', J.os, J.bare, J.base, J.hok, rv, q⟩
  | next =>
    obtain ⟨σ', H', J, q⟩ := hs
    exact ⟨.non, H', J.os, J.bare, J.base, J.hok, rfl, q⟩
  | brk =>
    obtain ⟨_, _, _, q⟩ := hs
    exact False.elim q
  | cont =>
    obtain ⟨_, _, _, q⟩ := hs
    exact False.elim q
structure CallE (P : Program) (w : World) (K : PySem.W.Frag) (mg : Str → Option Value) (base : Heap) (k : Nat) (x : Str) (sp : SpE) : Prop where
  ex : ∃ f fd ps, FnE P w K mg base k f fd ps sp ∧ mg x = some (.ref f) ∧ PySem.W.keepIn K (.ref f) = true ∧ Binds K fd ps []
theorem DefAt.okE {P : Program} {w : World} {K : PySem.W.Frag} {mg : Str → Option Value} {base : Heap} {x : Str} {st : Stmt} {N ps : List Str} {k : Nat} {sp : SpE} (D : DefAt K mg x st ps) (S : FnScope N ps (defScope st))
    (len : ∀ a c d vs H Q E, sp a c d vs H Q E → vs.length = ps.length) (b : BodyE P w K mg base k N x st sp) : CallE P w K mg base (k + 1) x sp := by
  obtain ⟨f, fd, F, hm, hb⟩ := D.ex
  exact ⟨f, fd, ps, Fun.okE F S len b, hm, F.kp, hb⟩
def tCallE (a : Addr) (cls : Value) (d : Option Addr) (sp : SpE) (t : TA) : TE := fun σ H Q => t σ H fun vs H1 => sp a cls d vs H1 Q E0
theorem pe_callE {X : Cx} {a : Addr} {oe : Obj} {cls : Value} {d : Option Addr} {k : Nat} {x : Str} {sp : SpE} {e : Expr} {es : List Expr} {t : TA} {p pos : Pos} (G : CallE X.prog X.w X.K X.mg X.base k x sp) (hr : L2H.RoomH k X.A) (hp : (a, oe) ∈ X.pn) (hz : Zc cls d oe) (hf : ∃ vs, oe.data = .fields vs)
    (ha : PA X (e :: es) t) (hg : Gl X x := by rfl) (hdb : (x == ("__debug__" : Str)) = false := by decide) (he : starEach (e :: es) X.env = (false, eval e X.env) :: starEach es X.env := by rfl) (hpl : (backTo pos (starEach es X.env)).any (·.1) = false := by rfl) :
    PE X (.Call (.Name x p) (e :: es) [] pos) (tCallE a cls d sp t) := by
  obtain ⟨f, fd, ps, F, hm, hk, hb⟩ := G.ex
  refine ⟨fun pins s σ H Q I h => ?_⟩
  refine wpAny_Call_Name_kw (ld_glob I hg hm ?_ hdb)
  refine PySem.W.callWith_K (h₀ := X.base) I.ok.mod.kin hk (thn (ha.run pos pins s σ H _ I h) fun us s1 ⟨vs, H1, I1, r, q⟩ => ⟨I1.kIn, ?_⟩) he hpl
  have P1 := I1.pin (a, oe) (List.mem_append_left _ hp)
  have hpin : L2H.PinOk X.stack H1 s1 (a, oe) := ⟨P1.1, P1.2.1, fun hm => (List.mem_cons.mp (I1.stkSub a hm)).elim P1.2.2.1 P1.2.2.2.1, P1.2.2.2.2⟩
  have hl : us.length = ps.length := by rw [← r.length]; exact F.len _ _ _ _ _ _ _ q
  have b := hb s1 us I1.kIn (by rw [List.append_nil]; exact hl)
  rw [List.append_nil] at b
  refine wpAny_call (codeAny_mono (F.run X.A X.stack s1 H1 ⟨us, []⟩ us vs Q E0 (a, oe) cls d hr hpin hz hf I1.env0 b r q) fun r s' hq => ?_)
  cases r with
  | error e => exact hq.elim
  | ok fl =>
    cases fl with
    | ret u => exact I1.after hq
    | next => exact False.elim hq
    | brk => exact False.elim hq
    | cont => exact False.elim hq
end My
namespace My
open PySem PySem.Spec PyProof.Rows L2
theorem ExD.same {d : Option Addr} {H H' : Hp} (h : ExD d H) (e : Same H H') : ExD d H' := by
  rcases h with h | ⟨dd, fs, h1, h2⟩
  · exact .inl h
  · exact .inr ⟨dd, fs, h1, e _ _ h2⟩
theorem roomS {k : Nat} {A : Around} {v : Option Value} (r : Room k A) : L2H.RoomH k (A.mark v) := ⟨r.dp, r.un⟩
theorem Vals.rev : ∀ {vs : List V} {us : List Value}, Vals vs us → Vals vs.reverse us.reverse
  | _, _, .nil => .nil
  | _, _, .cons h r => by
    rw [List.reverse_cons, List.reverse_cons]
    exact (Vals.rev r).append (.cons h .nil)
theorem MethDAt.makeK {P : Program} {w : World} {K : PySem.W.Frag} {mg : Str → Option Value} {base : Heap} {k : Nat} {x q : Str} {C : Addr} {sp : Sp} {N ps : List Str} {st : Stmt} {dvs : List V} (D : MethDAt K C "__init__" q st ps dvs) (c : ClassAt K mg C x) (S : FnScope N ps (defScope st)) (len : ∀ vs H Q E, sp vs H Q E → vs.length = ps.length) (b : BodyOk P w K mg base k N q st sp)
    (n : Nat) (ks : List Str) (g : {α : Type} → List α → List α → List α → List α) (hd : dvs ≠ []) (hrel : ∀ {vs ds zs : List V} {us its ws : List Value}, Vals vs us → Vals ds its → Vals zs ws → Vals (g vs ds zs) (g us its ws))
    (h : ∀ (T : Addr) (kV doc pm : Value) (an : Option Addr) (cdv ct : Value) (us its ws : List Value), us.length = n + 1 → its.length = dvs.length → ws.length = ks.length →
      ∃ k, bindArgs (PySem.W.fnOf "__init__" q (defArgs st) (defBody st) (defScope st) (.ref T) kV doc pm an cdv ct) ⟨us, ks.zip ws⟩ = seqItems? (.ref T) >>= k ∧ k (some its.toArray) = pure (ps.zip (g us its ws))) :
    MakeKOk P w K mg base (k + 1) C x n ks (fun vs zs => g vs dvs zs) sp := by
  obtain ⟨f, fd, F, hm, _, _⟩ := D.ex
  obtain ⟨its, hK⟩ := F.kbindsD (ps := ps) (n + 1) ks g hd hrel h
  exact ⟨f, fd, ps, _, F.ok S len (fun cdv A outer s H vs Q E hr h => by
    obtain ⟨t, h, q⟩ := b f cdv A outer s H vs Q E hr h
    exact ⟨t, h.nox, q⟩), ⟨c.makes, hm.at_, hm.fn, c.kp⟩, hK, c.mg⟩
theorem pe_makeKM {X : Cx} {k n : Nat} {x : Str} {C : Addr} {sp : Sp} {p pos : Pos} {e : Expr} {es : List Expr} {t tk : TA} {kws : List Keyword} {ks : List Str} {gV : List V → List V → List V} (G : MakeKOk X.prog X.w X.K X.mg X.base k C x n ks gV sp) (hr : Room (k + 1) X.A) (ha : PA X (e :: es) t) (hkw : PK X kws tk) (hg : Gl X x := by rfl)
    (hall : (backToKw pos (keywordEach kws X.env)).all (·.1.isSome) = true := by rfl) (hks : (backToKw pos (keywordEach kws X.env)).filterMap (·.1) = ks := by rfl) (hdb : (x == ("__debug__" : Str)) = false := by decide)
    (he : starEach (e :: es) X.env = (false, eval e X.env) :: starEach es X.env := by rfl) (hpl : ((backTo pos (starEach (e :: es) X.env)).any (·.1) || (backToKw pos (keywordEach kws X.env)).any (·.1.isNone)) = false := by rfl) : PE X (.Call (.Name x p) (e :: es) kws pos) (tMakeK C n ks.length sp gV E0 t tk) := by
  obtain ⟨f, fd, ps, g, F, hM, hb, hm⟩ := G.ex
  exact pe_makeK hM F hr hg hm hb pass0 ha hkw hall hks hdb he hpl
end My
namespace My
open PySem PySem.Spec PyProof.Rows L2
def Row (pl : Plan) (ds : List PyData) : Prop := ds.length ≤ 20 ∧ ∀ d ∈ ds, StepD pl d
def Odd (K : PySem.W.Frag) (H : Hp) (v : V) (n : Nat) : Prop := (∃ z : Int, v = .int z ∧ (z < 0 ∨ (n : Int) ≤ z)) ∨ (∃ b, v = .bl b) ∨ ∃ t, TyX K H v t ∧ PySem.W.kitOne K t (.type "int") = some false
inductive OddV (H : Hp) : V → PyData → Prop
  | int (z : Int) : OddV H (.int z) (.int z)
  | bl (b : Bool) : OddV H (.bl b) (.bool b)
  | non : OddV H .non .none
  | str (w : Str) (h : Fine 1 (.str w)) : OddV H (.str w) (.str w)
  | tup (a : Addr) (z : Int) (h : H a = some (.tup [.int z])) : OddV H (.ref a) (.tuple [.int z])
section
variable {H H' : Hp} {v : V} {d : PyData} {K : PySem.W.Frag} {n : Nat}
theorem OddV.same (h : OddV H v d) (e : Same H H') : OddV H' v d := by
  cases h with
  | int z => exact .int z
  | bl b => exact .bl b
  | non => exact .non
  | str w h => exact .str w h
  | tup a z h => exact .tup a z (e _ _ h)
theorem OddV.td (h : OddV H v d) : Td H v d := by
  cases h with
  | int z => exact .int z
  | bl b => exact .bl b
  | non => exact .non
  | str w h => exact .str w
  | tup a z h => exact .tup h (.cons (.int z) .nil)
theorem OddV.fine (h : OddV H v d) : Fine 2 d := by
  cases h with
  | int z => exact (Fine.int z).up (by decide)
  | bl b => exact (Fine.bool b).up (by decide)
  | non => exact Fine.none.up (by decide)
  | str w h => exact h.up (by decide)
  | tup a z h => exact Fine.tup (n := 1) fun d hd => by rw [List.mem_singleton.mp hd]; exact Fine.int z
theorem OddV.isb (h : OddV H v d) : ∃ t b, TyX K H v t ∧ PySem.W.kitOne K t (.type "bool") = some b := by
  cases h with
  | int z => exact ⟨_, false, .base (.int z), kit_ty (by decide +kernel)⟩
  | bl b => exact ⟨_, true, .base (.bl b), kit_ty (by decide +kernel)⟩
  | non => exact ⟨_, false, .base .non, kit_ty (by decide +kernel)⟩
  | str w h => exact ⟨_, false, .base (.str w), kit_ty (by decide +kernel)⟩
  | tup a z h => exact ⟨_, false, .base (.tup h), kit_ty (by decide +kernel)⟩
theorem OddV.odd (h : OddV H v d) (hi : ∀ z, v = .int z → z < 0 ∨ (n : Int) ≤ z) : Odd K H v n := by
  cases h with
  | int z => exact .inl ⟨z, rfl, hi z rfl⟩
  | bl b => exact .inr (.inl ⟨b, rfl⟩)
  | non => exact .inr (.inr ⟨_, .base .non, kit_ty (by decide +kernel)⟩)
  | str w h => exact .inr (.inr ⟨_, .base (.str w), kit_ty (by decide +kernel)⟩)
  | tup a z h => exact .inr (.inr ⟨_, .base (.tup h), kit_ty (by decide +kernel)⟩)
end
end My
namespace My
open PySem PySem.Spec PyProof.Rows L2
section
variable {X : Cx} {K : PySem.W.Frag} {a : Addr} {oe : Obj} {cls : Value} {d : Option Addr}
theorem kIsP (hp : (a, oe) ∈ X.pn) (hz : Zc cls d oe) (hf : ∃ vs, oe.data = .fields vs) (h : X.K = K := by rfl) : CallR X (.builtin "isinstance") (rIsP K a cls d) := by subst h; exact call_isP hp hz hf
theorem kIsPT (hp : (a, oe) ∈ X.pn) (hz : Zc cls d oe) (hf : ∃ vs, oe.data = .fields vs) (h : X.K = K := by rfl) : CallR X (.builtin "isinstance") (rIsPT K a cls d) := by subst h; exact call_isPT hp hz hf
end
end My
namespace My
open PySem PySem.Spec PyProof.Rows L2
theorem pe_ixY {X : Cx} {k : Nat} {C : Addr} {sp : Sp} {q : Str} {st : Stmt} {ps : List Str} {pos : Pos} {o i : Expr} {ta ti : TE} {W : WX} (ho : PE X o ta) (hi : PE X i ti) (G : MethX X.prog X.w X.K X.mg X.base k C "__getitem__" sp) (D : MethAt X.K C "__getitem__" q st ps) (hr : Room (k + 1) X.A) (tk : Takes X W)
    (hs : ∀ ov iv, subscripted i true ov iv = runValue (.builtin "lifetime.subscript" ⟨[ov, iv], []⟩) := by intro _ _; rfl) : PE X (.Subscript o i pos) (tIxX C sp (WE W) ta ti) := pe_ixX (s2 := st) ho hi G D hr tk hs
end My
namespace My
open PySem PySem.Spec PyProof.Rows L2
structure MethXK (P : Program) (w : World) (K : PySem.W.Frag) (mg : Str → Option Value) (base : Heap) (k : Nat) (C : Addr) (m : Str) (n : Nat) (ks : List Str) (gV : List V → List V → List V) (sp : Sp) : Prop where
  ex : ∃ f fd ps g, FnOk P w K mg base (L2.CX P w) k f fd ps sp ∧ Meth K C m f ∧ KBn K fd ps (n + 1) ks g gV ∧ Cls K C
theorem MethAt.okXK {P : Program} {w : World} {K : PySem.W.Frag} {mg : Str → Option Value} {base : Heap} {k n : Nat} {m q : Str} {C : Addr} {sp : Sp} {N ps ks : List Str} {st : Stmt} (D : MethAt K C m q st ps) (c : Cls K C) (S : FnScope N ps (defScope st)) (len : ∀ vs H Q E, sp vs H Q E → vs.length = ps.length) (b : BodyX P w K mg base k N q st sp)
    (g : {α : Type} → List α → List α → List α) (hrel : ∀ {vs zs : List V} {us ws : List Value}, Vals vs us → Vals zs ws → Vals (g vs zs) (g us ws))
    (h : ∀ (kV doc pm : Value) (an : Option Addr) (cdv ct : Value) (us ws : List Value), us.length = n + 1 → ws.length = ks.length → bindArgs (PySem.W.fnOf m q (defArgs st) (defBody st) (defScope st) .none kV doc pm an cdv ct) ⟨us, ks.zip ws⟩ = pure (ps.zip (g us ws))) :
    MethXK P w K mg base (k + 1) C m n ks (fun vs zs => g vs zs) sp := by
  obtain ⟨f, fd, F, hm, hb⟩ := D.ex
  refine ⟨f, fd, ps, fun us ws => g us ws, F.okX S len (fun cdv A outer s H vs Q E hr h => b f cdv A outer s H vs Q E hr h), hm, ?_, c⟩
  obtain ⟨oc, od, kV, doc, pm, an, cdv, ct, osl, rfl, lk, hcd⟩ := F.ex
  exact ⟨fun s us ws _ l1 l2 => .of_eq (h kV doc pm an cdv ct us ws l1 l2), fun r1 r2 => hrel r1 r2⟩
section
variable {X : Cx} {k n : Nat} {m : Str} {C : Addr} {sp : Sp} {pos apos : Pos} {o : Expr} {t tk2 : TA} {ta : TE} {W : WX} {ks : List Str} {gV : List V → List V → List V} {kws : List Keyword}
def tMethKX (C : Addr) (m : Str) (nk : Nat) (sp : Sp) (gV : List V → List V → List V) (E : L2.St → XK) (ta : TE) (t : TA) : TE := fun σ H Q => ta σ H fun x H1 => ∃ a dx fs, x = .ref a ∧ H1 a = some (.ins C dx fs) ∧ fs.lookup m = none ∧ t σ H1 fun zs H2 => zs.length = nk ∧ sp (gV [x] zs) H2 Q (E σ)
theorem pe_methKX {pl : Sem Bool} (he : PE X o ta) (G : MethXK X.prog X.w X.K X.mg X.base k C m 0 ks gV sp) (hr : Room k X.A) (tk : Takes X W) (hkw : PK X kws t)
    (hall : (backToKw pos (keywordEach kws X.env)).all (·.1.isSome) = true := by rfl) (hks : (backToKw pos (keywordEach kws X.env)).filterMap (·.1) = ks := by rfl)
    (hpl : ((backTo pos (starEach [] X.env)).any (·.1) || (backToKw pos (keywordEach kws X.env)).any (·.1.isNone)) = false := by rfl)
    (ht : eval (.Call (.Attribute o m apos) [] kws pos) X.env = (do
      let ov ← eval o X.env
      standAt apos.atName
      let (f, first) ← holding [ov] (getMethod ov m pl)
      callWith pos f first (backTo pos (starEach [] X.env)) (backToKw pos (keywordEach kws X.env))) := by rfl) :
    PE X (.Call (.Attribute o m apos) [] kws pos) (tMethKX C m ks.length sp gV (WE W) ta t) := by
  obtain ⟨f, fd, ps, g, F, hm, hb, c⟩ := G.ex
  refine ⟨fun pins s σ H Q I h => ?_⟩
  refine PySem.W.methodCall_KW (pl := pl) (thn (he.run pins s σ H _ I h) fun u s1 ⟨x, H1, I1, rx, a, dx, fs, ex, ea, l, q⟩ => ?_) ht
  subst ex
  obtain rfl : u = Value.ref a := rx
  refine getmeth_ok I1 ea c hm l ?_
  refine PySem.W.callWith_KW0 (first := [.ref a]) (h₀ := X.base) I.ok.mod.kin hm.kp hall ?_ hpl
  refine thn (hkw.run pos pins s1 σ H1 _ I1 q) fun ws s2 ⟨zs, H2, I2, rz, lz, q2⟩ => ⟨I2.kIn, ?_⟩
  rw [hks]
  have e2 : ws.length = ks.length := rz.length.symm.trans lz
  have r1 : Vals [V.ref a] [Value.ref a] := .cons rfl .nil
  refine wpAny_call (codeAny_mono (F.run X.A X.stack s2 H2 ⟨[.ref a], ks.zip ws⟩ (g [.ref a] ws) _ Q (WE W σ) hr I2.env0 (hb.to s2 [.ref a] ws I2.kIn rfl e2) (hb.rel r1 rz) q2) fun r s' hq => ?_)
  cases r with
  | error e => exact passAt tk σ pins _ _ e s' I2 hq
  | ok fl =>
    cases fl with
    | ret u => exact I2.after hq
    | next => exact False.elim hq
    | brk => exact False.elim hq
    | cont => exact False.elim hq
end
end My
namespace My
open PySem PySem.Spec PyProof.Rows L2
def caseD (pl : Plan) (ds : List PyData) (b : Bool) : PyData := .tuple [planD pl, .tuple ds, .bool b]
theorem caseD_inv {H : Hp} {v : V} {pl : Plan} {ds : List PyData} {b : Bool} (h : Td H v (caseD pl ds b)) : ∃ t tv rv, v = .ref t ∧ H t = some (.tup [tv, rv, .bl b]) ∧ Td H tv (planD pl) ∧ Td H rv (.tuple ds) := by
  obtain ⟨t, xs, rfl, ht, hx⟩ := h.tup_inv
  cases hx with
  | cons h0 r => cases r with
    | cons h1 r => cases r with
      | cons h2 r => cases r with
        | nil =>
          rw [h2.bl_inv] at ht
          exact ⟨t, _, _, rfl, ht, h0, h1⟩
theorem fine_s0 : Fine 1 (.str "0") := Fine.str fun c hc => by
  have : cd "0" = [48] := by decide +kernel
  rw [this] at hc
  rw [List.mem_singleton.mp hc]
  decide
theorem fine_s1 : Fine 1 (.str "") := Fine.str fun c hc => by
  have : cd "" = [] := by decide +kernel
  rw [this] at hc
  cases hc
theorem Row.without {pl : Plan} {ds : List PyData} (h : Row pl ds) (j : Nat) : Row pl (ds.take j ++ ds.drop (j + 1)) := by
  refine ⟨?_, fun d hd => ?_⟩
  · rw [List.length_append, List.length_take, List.length_drop]
    have := h.1
    omega
  · rcases List.mem_append.mp hd with m | m
    · exact h.2 d (List.mem_of_mem_take m)
    · exact h.2 d (List.mem_of_mem_drop m)
theorem ScrAt.row {CP CS p : Addr} {H : Hp} {pl : Plan} {ds : List PyData} {b : Bool} (S : ScrAt CP CS H p pl ds b) : Row pl ds := ⟨S.len, S.st⟩
end My
namespace My
open PySem PySem.Spec PyProof.Rows L2
abbrev Hnd := Value × Option Nat × (Addr → Value → Option Addr → TS)
def endN (D : Ends) : Option Nat → Ends
  | none => D
  | some i => { nx := fun σ' H' => D.nx (σ'.set i none) H', rt := D.rt, bk := fun σ' H' => D.bk (σ'.set i none) H', ct := fun σ' H' => D.ct (σ'.set i none) H' }
def stN (σ : L2.St) (a : Addr) : Option Nat → L2.St
  | none => σ
  | some i => σ.set i (some (.ref a))
def wM (K : PySem.W.Frag) (Wout : WX) (D : Ends) : List Hnd → WX
  | [] => Wout
  | (c, oi, ts) :: r => fun cls d σ H => ∃ b, PySem.W.exmOne K cls c = some b ∧ (b = true → ∀ a, H a = none → ts a cls d (endN D oi) (stN σ a oi) H) ∧ (b = false → wM K Wout D r cls d σ H)
abbrev SuOk (X : Cx) (su : List Stmt) (ts : Addr → Value → Option Addr → TS) : Prop := ∀ (a : Addr) (oe : Obj) (cls : Value) (d : Option Addr) (pn : List (Addr × Obj)), Zc cls d oe → (∃ vs, oe.data = .fields vs) → PSs (X.suite a ((a, oe) :: pn)) su (ts a cls d)
inductive HdsM (X : Cx) : List ExceptHandler → List Hnd → Prop
  | nil : HdsM X [] []
  | bare {x : Str} {c : Value} {ts : Addr → Value → Option Addr → TS} {b₀ : Stmt} {suite : List Stmt} {np pos' : Pos} {hds : List ExceptHandler} {l : List Hnd} (hc : Names X x c) (hsu : SuOk X (b₀ :: suite) ts) (r : HdsM X hds l) : HdsM X (.ExceptHandler (some (.Name x np)) none (b₀ :: suite) pos' :: hds) ((c, none, ts) :: l)
  | named {x n : Str} {c : Value} {i : Nat} {ts : Addr → Value → Option Addr → TS} {b₀ : Stmt} {suite : List Stmt} {np pos' : Pos} {hds : List ExceptHandler} {l : List Hnd} (hi : X.N[i]? = some n) (hln : X.env.kindOf n = some .local) (hc : Names X x c) (hsu : SuOk X (b₀ :: suite) ts) (r : HdsM X hds l) :
      HdsM X (.ExceptHandler (some (.Name x np)) (some n) (b₀ :: suite) pos' :: hds) ((c, some i, ts) :: l)
section
variable {X : Cx} {body : List Stmt} {h₀ : ExceptHandler} {hds : List ExceptHandler} {l : List Hnd} {pos : Pos} {tb : WX → TS} {Wout : WX}
theorem ps_tryM (hN : X.N.Nodup) (hs : X.stack = X.env :: X.outer) (hf : X.env.frame = some X.env.locals) (tk : Takes X Wout)
    (hb : ∀ (W : WX) (pn : List (Addr × Obj)) (xe : Value → Shared → Prop), Takes (X.tr pn xe) W → PassesOwn (model X.prog X.w) X.A X.env xe → PSs (X.tr pn xe) body (tb W))
    (hh : HdsM X (h₀ :: hds) l) : PS X (.Try body (h₀ :: hds) [] [] pos) (fun D σ H => tb (wM X.K Wout D l) D σ H) := by
  refine ⟨fun pins s σ H D I h => ?_⟩
  have ok := I.ok
  have hfr : X.A.frames = some (X.env :: X.outer) := by rw [ok.frames, hs]
  refine wpAny_Try_except ?_
  refine wpAny_mono ((hb (wM X.K Wout D l) (X.pn ++ pins) (fun e s₁ => wpAny (model X.prog X.w) X.A (noteFrame e X.env) (fun _ s₂ => wpAny (model X.prog X.w) X.A (setFlight e none) (fun _ s₃ =>
    wpAny (model X.prog X.w) X.A (handleBy e X.env (h₀ :: hds)) (SP X pins D) X.xe s₃) X.xe s₂) X.xe s₁) (fun u s' xx => ?_) PassesOwn.looking).run [] s σ H D (I.toTry _) h) (fun f s1 hsp => ?_) (fun e s1 he => he)
  rotate_left
  · cases f with
    | next =>
      obtain ⟨σ', H', J', q⟩ := hsp
      exact wpAny_execs_nil ⟨σ', H', J'.ofTry ok, q⟩
    | brk =>
      obtain ⟨σ', H', J', q⟩ := hsp
      exact ⟨σ', H', J'.ofTry ok, q⟩
    | cont =>
      obtain ⟨σ', H', J', q⟩ := hsp
      exact ⟨σ', H', J'.ofTry ok, q⟩
    | ret u =>
      obtain ⟨v, σ', H', J', r, q⟩ := hsp
      exact ⟨v, σ', H', J'.ofTry ok, r, q⟩
  · obtain ⟨a, B, sI, pins', σ', H', cls, d, rfl, J', nb, up, sky, na, os, ag, w⟩ := xx
    have J : Inv X pins σ' H' sI := J'.ofTry ok
    have sky' : Sky B (X.env :: X.outer) a (Zc cls d) X.env.locals s'.heap := by rw [← hs]; exact sky
    show wpAny (model X.prog X.w) X.A (noteFrame (.ref a) X.env) _ _ _
    refine Sky.land Zc.steady hfr hf sky' fun h3 fl3 up3 => ?_
    have J3 : Inv X pins σ' H' { s' with heap := h3 } := J.landed nb fl3.1 (up.trans up3) os ag
    obtain ⟨oe3, vs3, he3, hz3, hd3⟩ := fl3.there
    have notFr : ∀ {h : Heap} {o : Obj} {vs : Array Value}, h.FunFrames B (X.env :: X.outer) → h.get? a = some o → o.data = .fields vs → a ∉ frs (X.env :: X.outer) := fun {h o vs} ff e dd hm => by
      obtain ⟨_, o', e', hnf⟩ := ff.mem hm
      rw [e] at e'; cases e'
      exact hnf _ dd
    have nfr := notFr fl3.2.2.1 he3 hd3
    have nL : a ≠ X.env.locals := fun z => nfr (List.mem_filterMap.mpr ⟨X.env, List.mem_cons_self, by rw [hf, z]⟩)
    have nF : a ∉ X.fs := fun hm => by
      obtain ⟨e, he, q⟩ := List.mem_filterMap.mp hm
      exact nfr (List.mem_filterMap.mpr ⟨e, List.mem_cons_of_mem _ he, q⟩)
    have S3 := J3.suite he3 hd3 na nL nF
    have LT : PySem.W.Looks (model X.prog X.w) h3 (typeOf (.ref a)) cls := fun A Q E s k q => wpAny_typeOf_ref (k _ _ he3) (by rw [hz3.1]; exact q)
    have test : ∀ {x : Str} {c : Value} {np : Pos} {Q : Value → Shared → Prop} {E : Value → Shared → Prop}, Names X x c → Q c { s' with heap := h3 } → wpAny (model X.prog X.w) (X.A.mark (some (.ref a))) (eval (.Name x np) X.env) Q E { s' with heap := h3 } := fun {x c np Q E} hc q => by
      obtain ⟨hg, hdbg, hm | ⟨hm, hv, hnn⟩⟩ := hc
      · exact ld_glob (X := X.suite a ((a, oe3) :: (X.pn ++ pins))) S3 hg hm q hdbg
      · exact ld_blt (X := X.suite a ((a, oe3) :: (X.pn ++ pins))) S3 hg hm hv q hnn hdbg
    have go : ∀ {hds' : List ExceptHandler} {l' : List Hnd}, HdsM X hds' l' → wM X.K Wout D l' cls d σ' H' →
        wpAny (model X.prog X.w) X.A (handleBy (.ref a) X.env hds') (SP X pins D) X.xe { s' with heap := h3 } := by
      intro hds' l' hk
      induction hk with
      | nil =>
        intro w
        refine wpAny_handleBy_nil ?_
        obtain ⟨k1, k2, k3, oe, vs, T, oT, ts', he, hz, hd, h1, hr⟩ := id fl3
        unfold PySem.passOn
        refine wpAny_bind (wpAny_field he hd h1 ?_)
        rw [if_neg (show ¬ ((Value.ref T == Value.none) = true) from by simp)]
        have fin : wpAny (model X.prog X.w) X.A (setFlight (.ref a) X.env.frame) (fun _ s4 => wpAny (model X.prog X.w) X.A (throw (.ref a) : Sem Flow) (SP X pins D) X.xe s4) X.xe { s' with heap := h3 } := by
          rw [hf]
          refine HandSPX.setFlight_upZ fl3 fun h4 hh4 up4 => wpAny_throw (tk _ _ ?_)
          exact ⟨a, B, sI, pins, σ', H', cls, d, rfl, J, nb, (up.trans up3).trans up4, .inr (.inr (by rw [hs]; exact hh4)), na, os, ag, w⟩
        first
          | exact wpAny_bind (wpAny_pure (wpAny_bind fin))
          | exact wpAny_bind fin
      | @bare x c ts b₀ suite np pos' hds2 l2 hc hsu r ih =>
        intro w
        obtain ⟨b, hb1, hyes, hno⟩ := w
        refine wpAny_handleBy_cons (codeAny_handlers_test ?_) (by intro q; cases q)
        have LM := PySem.W.exm_one (M := model X.prog X.w) (J3.kIn) LT hb1
        refine test hc (LM.here ?_)
        cases b with
        | true =>
          refine codeAny_handlers_suite ?_
          refine HandSPX.lands_againZ fl3 fun h4 fl4 up4 => ?_
          have J4 : Inv X pins σ' H' { s' with heap := h4 } := J.landed nb fl4.1 ((up.trans up3).trans up4) os ag
          obtain ⟨oe4, vs4, he4, hz4, hd4⟩ := fl4.there
          have S4 := J4.suite he4 hd4 na nL nF
          refine wpAny_mono ((hsu a oe4 cls d (X.pn ++ pins) hz4 ⟨_, hd4⟩).run [] _ _ H' _ S4 (hyes rfl a na)) (fun f s6 hsp => ?_) (fun _ _ z => False.elim z)
          cases f with
          | next =>
            obtain ⟨σ6, H6, S6, q6⟩ := hsp
            exact ⟨_, _, S6.unsuite ok, q6⟩
          | brk =>
            obtain ⟨σ6, H6, S6, q6⟩ := hsp
            exact ⟨_, _, S6.unsuite ok, q6⟩
          | cont =>
            obtain ⟨σ6, H6, S6, q6⟩ := hsp
            exact ⟨_, _, S6.unsuite ok, q6⟩
          | ret u =>
            obtain ⟨v6, σ6, H6, S6, r6, q6⟩ := hsp
            exact ⟨_, _, _, S6.unsuite ok, r6, q6⟩
        | false =>
          show wpAny _ X.A (handleBy (.ref a) X.env hds2) _ _ _
          exact ih (hno rfl)
      | @named x n c i ts b₀ suite np pos' hds2 l2 hi hln hc hsu r ih =>
        intro w
        obtain ⟨b, hb1, hyes, hno⟩ := w
        refine wpAny_handleBy_cons (codeAny_handlers_test ?_) (by intro q; cases q)
        have LM := PySem.W.exm_one (M := model X.prog X.w) (J3.kIn) LT hb1
        refine test hc (LM.here ?_)
        cases b with
        | true =>
          refine codeAny_handlers_suite_as ?_
          refine HandSPX.lands_againZ fl3 fun h4 fl4 up4 => ?_
          have J4 : Inv X pins σ' H' { s' with heap := h4 } := J.landed nb fl4.1 ((up.trans up3).trans up4) os ag
          obtain ⟨oe4, vs4, he4, hz4, hd4⟩ := fl4.there
          have S4 := J4.suite he4 hd4 na nL nF
          refine store_ok (X := X.suite a ((a, oe4) :: (X.pn ++ pins))) (v := .ref a) S4 hN hi (.inl hln) rfl (fun s5 S5 => ?_) (.inr hln)
          refine wpAny_mono ((hsu a oe4 cls d (X.pn ++ pins) hz4 ⟨_, hd4⟩).run [] s5 _ H' _ S5 (hyes rfl a na)) (fun f s6 hsp => ?_) (fun _ _ z => False.elim z)
          have end_ : ∀ {σ6 : L2.St} {H6 : Hp} {Q : Shared → Prop}, Inv (X.suite a ((a, oe4) :: (X.pn ++ pins))) [] σ6 H6 s6 → (∀ s7, Inv X pins (σ6.set i none) H6 s7 → Q s7) →
              wpAny (model X.prog X.w) X.A (do bindName X.env n .none; unbindBehindTheSuite X.env n pos') (fun _ s7 => Q s7) X.xe s6 := fun {σ6 H6 Q} S6 hq => gone_ok (S6.unsuite ok) hN hi hln hq
          cases f with
          | next =>
            obtain ⟨σ6, H6, S6, q6⟩ := hsp
            exact end_ S6 fun s7 J7 => ⟨_, _, J7, q6⟩
          | brk =>
            obtain ⟨σ6, H6, S6, q6⟩ := hsp
            exact end_ S6 fun s7 J7 => ⟨_, _, J7, q6⟩
          | cont =>
            obtain ⟨σ6, H6, S6, q6⟩ := hsp
            exact end_ S6 fun s7 J7 => ⟨_, _, J7, q6⟩
          | ret u =>
            obtain ⟨v6, σ6, H6, S6, r6, q6⟩ := hsp
            exact end_ S6 fun s7 J7 => ⟨_, _, _, J7, r6, q6⟩
        | false =>
          show wpAny _ X.A (handleBy (.ref a) X.env hds2) _ _ _
          exact ih (hno rfl)
    exact go hh w
end
end My
namespace My
open PySem PySem.Spec PyProof.Rows L2
theorem let_go {X : Cx} {pins : List (Addr × Obj)} {σ : L2.St} {H1 H2 : Hp} {hp hp2 h2 : Heap} {g1 g2 : Array GenState} {d1 d2 : Drawn} {t1 t2 : Nat} {os1 os2 : OsState} {a C : Addr} (I1 : Inv X pins σ H1 ⟨hp, g1, d1, t1, os1⟩)
    (ha : hp.objs.size ≤ a) (k : ∀ b o, hp.get? b = some o → hp2.get? b = some o) (un : Un (frs X.stack) [] (upd H1 a (exo a C none)) H2 hp2 h2) (hok : HOk X.prog X.w H2 h2) (ho : os2 = os1) (hb : AllBare g2) (ea : H2 a = some (exo a C none)) :
    ∃ (t0 : Addr) (G : Heap), Inv X pins σ (del H2 a) ⟨G, g2, d2, t2, os2⟩ ∧ (∀ b o, G.get? b = some o → h2.get? b = some o) ∧ G.get? a = none ∧
      h2.get? a = some ({ cls := .ref C, dict := none, data := .fields #[.ref t0, .none, .none, .none, .bool false, .none] } : Obj) := by
  obtain ⟨t0, hoe⟩ := exo_at hok ea
  have n1 : H1 a = none := I1.hok.fresh ha
  obtain ⟨G, gA, gB⟩ := restrict h2 fun b => decide (b ≠ a)
  have same : ∀ b, b ≠ a → G.get? b = h2.get? b := fun b z => gA b (decide_eq_true z)
  have gone : G.get? a = none := gB a (by simp)
  have away : ∀ {b : Addr} {o : Obj}, hp.get? b = some o → b ≠ a := fun {b o} z => Nat.ne_of_lt (Nat.lt_of_lt_of_le (Heap.lt_size z) ha)
  have fr1 : ∀ {b : Addr}, b ≠ a → H1 b = none → upd H1 a (exo a C none) b = none := fun {b} z n => by rw [upd_ne z]; exact n
  have U : Un (frs X.stack) [] H1 (del H2 a) hp G := {
    keep := fun b o z n f x => by rw [same b (away z)]; exact un.keep b o (k b o z) (fr1 (away z) n) f x
    slot := fun b o z n f x => by rw [same b (away z)]; exact un.slot b o (k b o z) (fr1 (away z) n) f x
    free := fun b o z n x => by rw [del_ne (away z)]; exact un.free b o (k b o z) (fr1 (away z) n) x
    there := fun b o z x => by rw [same b (away z)]; exact un.there b o (k b o z) x
    tups := fun b xs z => by rw [del_ne (ne_of_none z n1)]; exact un.tups b xs (by rw [upd_ne (ne_of_none z n1)]; exact z)
    frzs := fun b o v z => by rw [del_ne (ne_of_none z n1)]; exact un.frzs b o v (by rw [upd_ne (ne_of_none z n1)]; exact z)
    tbls := fun b ps z => by rw [del_ne (ne_of_none z n1)]; exact un.tbls b ps (by rw [upd_ne (ne_of_none z n1)]; exact z) }
  have okG : HOk X.prog X.w (del H2 a) G := fun b o z => by
    have nb : b ≠ a := fun e => by rw [e, del_same] at z; cases z
    rw [del_ne nb] at z
    have noa : ∀ {c : Addr}, H2 c = some (.own b) → c ≠ a := fun {c} hc => at_ne ea hc exo_own
    exact (hok b o z).stay (fun c v hc y => by
        have nc : c ≠ a := by
          rcases hc with hc | hc
          · rw [hc]; exact nb
          · exact noa hc
        rw [same c nc]; exact y)
      (fun c hc => by rw [del_ne (noa hc)]; exact hc) (fun c xs hc => by rw [del_ne (at_ne ea hc exo_tup)]; exact hc)
  have J : Inv X pins σ (del H2 a) ⟨G, g2, d2, t2, os2⟩ := I1.call' (ch := []) ho U okG hb (fun b z => absurd z (by simp))
  refine ⟨t0, G, J, fun b o z => ?_, gone, hoe⟩
  by_cases e : b = a
  · rw [e, gone] at z; cases z
  · exact (same b e).symm.trans z
def tMkN (C : Addr) (sp : Sp) (ta : TA) : L2.St → Hp → XK → Prop := fun σ H Q => ta σ H fun vs H1 => vs.length ≤ 1000 ∧ ∀ a, H1 a = none → sp (.ref a :: (vs ++ [])) (upd H1 a (exo a C none))
  (fun v H2 => v = .non ∧ H2 a = some (exo a C none) ∧ Q (.ref C) none (del H2 a)) (fun _ _ _ => False)
theorem pmk_oexN {X : Cx} {CX : CXT} {x : Str} {C fI : Addr} {k : Nat} {fd : FuncData} {ps : List Str} {sp : Sp} {p pos : Pos} {e : Expr} {es : List Expr} {ta : TA} (T : OexC X.K C) (iC : PySem.W.findIn X.K (.ref C) "__init__" = some (some (.ref fI))) (tI : PySem.W.typeIn X.K (.ref fI) = some (.type "function"))
    (F1 : FnOk X.prog X.w X.K X.mg X.base CX k fI fd ps sp) (hr : Room (k + 1) X.A) (hb : Binds X.K fd ps []) (hx : Passes CX X (fun _ _ _ => False)) (hg : Gl X x) (hm : X.mg x = some (.ref C)) (ha : PA X (e :: es) ta)
    (hdb : (x == ("__debug__" : Str)) = false := by decide) (he : starEach (e :: es) X.env = (false, eval e X.env) :: starEach es X.env := by rfl) (hpl : (backTo pos (starEach es X.env)).any (·.1) = false := by rfl) :
    PMk X (.Call (.Name x p) (e :: es) [] pos) (tMkN C sp ta) := by
  intro pins s σ H Q I h
  obtain ⟨nm, q, N, bs, bm, sn, sub, ab, col, dd, k0, k1, k2, k3, k5, hC, hbm⟩ := T.cls
  refine wpAny_Call_Name_kw (ld_glob I hg hm ?_ hdb)
  refine PySem.W.callWith_K (h₀ := X.base) I.ok.mod.kin T.kC (thn (ha.run pos pins s σ H _ I h) fun us s1 ⟨vs, H1, I1, r1, hz, q1⟩ => ⟨I1.kIn, ?_⟩) he hpl
  show wpAny _ _ (call (.ref C) us) _ _ _
  obtain ⟨hp, g, dr, tk, os⟩ := s1
  have l1 : hp.objs.size ≤ hp.objs.size + 1 := Nat.le_succ _
  have hq := q1 (hp.objs.size + 1) (I1.hok.fresh l1)
  have kk : ∀ b o, hp.get? b = some o → ((hp.push (PySem.W.kdv_tup us)).push (PySem.HandSPX.excO C hp.objs.size)).get? b = some o := fun b o z => Heap.get?_push_of_some _ (Heap.get?_push_of_some _ z)
  have hget : ((hp.push (PySem.W.kdv_tup us)).push (PySem.HandSPX.excO C hp.objs.size)).get? (hp.objs.size + 1) = some (PySem.HandSPX.excO C hp.objs.size) := by heap_get
  have I2 : Inv X pins σ (upd H1 (hp.objs.size + 1) (exo (hp.objs.size + 1) C none)) ⟨(hp.push (PySem.W.kdv_tup us)).push (PySem.HandSPX.excO C hp.objs.size), g, dr, tk, os⟩ :=
    I1.laid (t' := tk) (a := hp.objs.size + 1) (o := exo (hp.objs.size + 1) C none) (h' := (hp.push (PySem.W.kdv_tup us)).push (PySem.HandSPX.excO C hp.objs.size)) kk l1 (exo_ok hget)
  have r2 : Vals (V.ref (hp.objs.size + 1) :: (vs ++ [])) (Value.ref (hp.objs.size + 1) :: us) := .cons rfl (by rw [List.append_nil]; exact r1)
  have hl : (Value.ref (hp.objs.size + 1) :: us).length = ps.length := by
    have z := r2.length
    rw [F1.len _ _ _ _ hq] at z
    exact z.symm
  have hb2 := hb _ (Value.ref (hp.objs.size + 1) :: us) I2.kIn (by rw [List.append_nil]; exact hl)
  rw [List.append_nil] at hb2
  have lus : us.length ≤ sizeLine := by rw [← Paired.length r1, sizeLine_eq]; omega
  refine wpAny_call (PySem.HandSPX.call_own F.excBase_ValueError (fun Y => PySem.HandSPX.refsVE_contains Y bm hbm) (I1.kIn _ _ hC) (PySem.W.looks_findIn I1.kIn iC) (fun self => PySem.W.bind_fn I1.kIn self tI) lus
    (codeAny_mono (F1.run _ X.stack _ _ ⟨Value.ref (hp.objs.size + 1) :: us, []⟩ (Value.ref (hp.objs.size + 1) :: us) _ _ (fun _ _ _ => False) (hr.make C us []) (I2.env0.make C us []) hb2 r2 hq) fun r s' hq' => ?_))
  cases r with
  | error er => exact hx pins σ _ _ er s' I2 hq'
  | ok fl =>
    cases fl with
    | ret u =>
      obtain ⟨v, H2, os2, bare2, un2, hok2, rv, ev, ea, q2⟩ := hq'
      subst ev
      obtain ⟨h2, g2, d2, t2, os'⟩ := s'
      obtain ⟨t0, G, J, kG, ge, hoe⟩ := let_go (d2 := d2) (t2 := t2) I1 l1 kk un2 hok2 os2 bare2 ea
      exact ⟨rv, ⟨hp.objs.size + 1, _, _, ⟨G, g2, d2, t2, os'⟩, _, .ref C, none, rfl, J, kG, ge, hoe, ⟨rfl, rfl⟩, rfl, rfl, del_same, rfl, bare2, raises_own T.exC T.tyC, q2⟩⟩
    | next => exact False.elim hq'
    | brk => exact False.elim hq'
    | cont => exact False.elim hq'
structure InhOk (P : Program) (w : World) (K : PySem.W.Frag) (mg : Str → Option Value) (base : Heap) (k : Nat) (C : Addr) (x : Str) : Prop where
  ex : ∃ f fd ps, FnOk P w K mg base CX0 k f fd ps (spBaseK K) ∧ PySem.W.findIn K (.ref C) "__init__" = some (some (.ref f)) ∧ PySem.W.typeIn K (.ref f) = some (.type "function") ∧ Binds K fd ps [] ∧ ErrAt K mg C x []
theorem MethAt.inh {P : Program} {w : World} {K : PySem.W.Frag} {mg : Str → Option Value} {base : Heap} {k : Nat} {x q : Str} {B C : Addr} {N ps : List Str} {st : Stmt} (D : MethAt K B "__init__" q st ps) (c : ErrAt K mg C x []) (i : PySem.W.findIn K (.ref C) "__init__" = PySem.W.findIn K (.ref B) "__init__") (S : FnScope N ps (defScope st))
    (len : ∀ vs H Q E, spBaseK K vs H Q E → vs.length = ps.length) (b : BodyOk P w K mg base k N q st (spBaseK K)) : InhOk P w K mg base (k + 1) C x := by
  obtain ⟨f, fd, F, hm, hb⟩ := D.ex
  exact ⟨f, fd, ps, F.ok S len (fun cdv A outer s H vs Q E hr h => b f cdv A outer s H vs Q E hr h), i.trans hm.at_, beq_iff_eq.mp hm.fn, hb, c⟩
def tRaiseN (C : Addr) (K : PySem.W.Frag) (W : WX) (t : TA) : TS := fun _ σ H => tMkN C (spBaseK K) t σ H fun cls d H' => W cls d σ H'
theorem ps_raiseN {X : Cx} {k : Nat} {x : Str} {C : Addr} {p pos pos2 : Pos} {e : Expr} {es : List Expr} {t : TA} {W : WX} (hc : X.calm = true) (G : InhOk X.prog X.w X.K X.mg X.base k C x) (hr : Room (k + 1) X.A) (tk : Takes X W) (ha : PA X (e :: es) t) (hg : Gl X x := by rfl) (hdb : (x == ("__debug__" : Str)) = false := by decide)
    (he : starEach (e :: es) X.env = (false, eval e X.env) :: starEach es X.env := by rfl) (hpl : (backTo pos (starEach es X.env)).any (·.1) = false := by rfl) :
    PS X (.Raise (some (.Call (.Name x p) (e :: es) [] pos)) none pos2) (tRaiseN C X.K W t) := by
  obtain ⟨f, fd, ps, F, iC, tI, hb, c⟩ := G.ex
  exact ps_raise hc tk (pmk_oexN c.ox iC tI F hr hb pass0 hg c.mg ha hdb he hpl)
theorem errMkN {K : PySem.W.Frag} {C : Addr} {w : V} {H1 : Hp} {Q : XK} (o : OexC K C) (q : ∀ H', Same H1 H' → Q (.ref C) none H') :
    [w].length ≤ 1000 ∧ ∀ a, H1 a = none → spBaseK K (.ref a :: ([w] ++ [])) (upd H1 a (exo a C none)) (fun v H2 => v = .non ∧ H2 a = some (exo a C none) ∧ Q (.ref C) none (del H2 a)) (fun _ _ _ => False) := by
  refine ⟨by show 1 ≤ 1000; decide, fun a ha => ⟨a, C, w, rfl, o, upd_same, rfl, upd_same, q _ fun c u hc => ?_⟩⟩
  rw [del_ne (ne_of_none hc ha), upd_ne (ne_of_none hc ha)]
  exact hc
structure NeAt (K : PySem.W.Frag) (C : Addr) : Prop where
  at_ : PySem.W.findIn K (.ref C) "__ne__" = some (some (.builtin "object.__ne__"))
  ob : PySem.W.subIn K (.ref C) (.type "object") = some true
def rNeL (K : PySem.W.Frag) (C : Addr) (sp : Sp) : R2 := fun x y H Q => ∃ a dx fs b dy gs, x = .ref a ∧ H a = some (.ins C dx fs) ∧ y = .ref b ∧ H b = some (.ins C dy gs) ∧ sp [x, y] H (fun v H2 => ∃ b, v = .bl b ∧ Q (.bl (!b)) H2) E0
theorem ifBoundB {M : Model} {A : Around} {E : Value → Shared → Prop} {s : Shared} {K : PySem.W.Frag} {x C : Addr} {ox : Obj} {od : Option Obj} {name : Str} {id : String} {args : List Value} {Q : Option Value → Shared → Prop} (Y : K.In s.heap) (J : PySem.W.InstAt s.heap x ox C od)
    (hs : PySem.W.findIn K (.ref C) name = some (some (.builtin id))) (S : Slot "object" name id) (h : wpAny M A (call (.builtin id) (.ref x :: args)) (fun v => Q (some v)) E s) : wpAny M A (callSpecialIfBound? (.ref x) name args) Q E s := by
  simp only [callSpecialIfBound?, bindSpecialIfBound?]
  refine wpAny_holding (wpAny_bind (wpAny_bind (wpAny_bind (J.type.here ((PySem.W.looks_findIn Y hs).here ?_)))))
  simp only [S.bind]
  refine wpAny_bind (wpAny_askSetting (wpAny_ite ?_))
  have fin : wpAny M A (call (.builtin id) ([.ref x] ++ args) >>= fun v => pure (some v)) Q E s := wpAny_bind (wpAny_mono h (fun v s' h' => wpAny_pure h') fun _ _ h' => h')
  split
  · exact wpAny_bind (wpAny_pure (wpAny_pure (by exact fin)))
  · exact wpAny_tryCatch (wpAny_bind (wpAny_pure (wpAny_pure (by exact fin))))
end My
namespace My
open PySem PySem.Spec PyProof.Rows L2
section
variable {prog : Program} {w : World} {E : Value → Shared → Prop} {s : Shared} {K : PySem.W.Frag} {x C L f : Addr} {h₀ : Heap} {m : Str → Option Value} {ox : Obj} {od : Option Obj} {b tb : Value}
theorem ne_ask {A : Around} {Q : Fin → Shared → Prop} (Y : K.In s.heap) (J : PySem.W.InstAt s.heap x ox C od) (hs : PySem.W.findIn K (.ref C) "__eq__" = some (some (.ref f))) (hf : PySem.W.isFn K (.ref f) = true) (hu : A.units < cLine)
    (h : wpAny (model prog w) A (call (.ref f) [.ref x, b]) (fun v s' => ∃ r, v = .bool r ∧ Q (.done (.ret (.bool (!r)))) s') E s) : wpAny (model prog w) A (Builtin.«object.__ne__» ⟨[.ref x, b], []⟩) Q E s := by
  unfold Builtin.«object.__ne__»
  repeat (first
    | with_reducible refine wpAny_cRoomFor hu ?_
    | (refine wpAny_bind (m := callSpecialIfBound? (.ref x) (Str.ofString "__eq__") [b]) (PySem.W.ifBound_K Y J hs hf (wpAny_mono h (fun v s' hv => by
          obtain ⟨r, rfl, hq⟩ := hv
          repeat (first | exact hq | exact wpAny_pure hq | exact wpAny_truthy_bool hq | (refine wpAny_bind (m := truthy (.bool _)) (wpAny_truthy_bool ?_)) | wp_step)) fun _ _ e => e)))
    | wp_step)
theorem ne_K {A : Around} {Q : Value → Shared → Prop} (hu : A.units + 1 < cLine) (FR : Fr h₀ L s.heap m) (Y₀ : K.In h₀) (J : PySem.W.InstAt s.heap x ox C od) (hb : PySem.W.Looks (model prog w) s.heap (typeOf b) tb) (hn : PySem.W.notFirst K C tb = true) (N : NeAt K C)
    (hs : PySem.W.findIn K (.ref C) "__eq__" = some (some (.ref f))) (hf : PySem.W.isFn K (.ref f) = true)
    (h : wpAny (model prog w) A.in1 (call (.ref f) [.ref x, b]) (fun v s' => ∃ r, v = .bool r ∧ Q (.bool (!r)) s') E s) : wpAny (model prog w) A (richCompare .NotEq (.ref x) b) Q E s := by
  have Y := Y₀.keeps FR.keep
  have one : wpAny (model prog w) A (tryCompare (.ref x) "__ne__" b) (fun r s' => ∃ v, r = some v ∧ Q v s') E s := by
    unfold tryCompare
    refine wpAny_bind (ifBoundB Y J N.at_ F.cmp_object.ne (wpAny_call (codeAny_call_builtin F.cmp_object.ne.plain F.cmpEntry_ne
      (PySem.W.check_slot F.cmpKind_ne F.cmpSplit_ne (J.type.andThen (PySem.W.looks_subIn Y N.ob)) (F.cmpArgs_ne _ _) (ne_ask (A := A.in1) Y J hs hf hu (wpAny_mono h (fun v s' hv => ?_) fun _ _ e => e))))))
    obtain ⟨r, rfl, hq⟩ := hv
    first | exact ⟨r, rfl, wpAny_pure ⟨_, rfl, hq⟩⟩ | exact ⟨r, rfl, wpAny_pure (wpAny_pure ⟨_, rfl, hq⟩)⟩ | exact ⟨r, rfl, ⟨_, rfl, hq⟩⟩
  unfold richCompare
  simp only [oneThing_ref]
  refine wpAny_holding (wpAny_bind (wpAny_cRoomFor (Nat.lt_of_succ_lt hu) ?_))
  refine wpAny_bind (J.type.here (wpAny_bind (hb.here ?_)))
  split
  · rename_i q
    have e : PySem.W.subIn K tb (.ref C) = some false := by
      rcases Bool.or_eq_true_iff.mp hn with e | e
      · rw [beq_iff_eq.mp e] at q; simp at q
      · exact beq_iff_eq.mp e
    refine wpAny_bind ((PySem.W.looks_subIn Y e).here ?_)
    simp only [Bool.false_eq_true, if_false]
    refine wpAny_bind (wpAny_mono one (fun r s' z => ?_) fun _ _ e => e)
    obtain ⟨v, rfl, hq⟩ := z
    exact wpAny_pure hq
  · refine wpAny_bind (wpAny_pure ?_)
    simp only [Bool.false_eq_true, if_false]
    refine wpAny_bind (wpAny_mono one (fun r s' z => ?_) fun _ _ e => e)
    obtain ⟨v, rfl, hq⟩ := z
    exact wpAny_pure hq
end
section
variable {X : Cx} {k : Nat} {C : Addr} {sp : Sp}
theorem op_neL (G : MethOk X.prog X.w X.K X.mg X.base k C "__eq__" sp) (N : NeAt X.K C) (hr : Room (k + 1) X.A) : OpR X (compareOp .NotEq) (rNeL X.K C sp) := by
  obtain ⟨f, fd, ps, FF, hm, hb, c⟩ := G.ex
  intro pins s σ H x y v u Q I rx ry h
  obtain ⟨a, dx, fs, b, dy, gs, rfl, ha, rfl, hb', h⟩ := h
  obtain rfl : v = Value.ref a := rx
  obtain rfl : u = Value.ref b := ry
  obtain ⟨m, fr⟩ := I.fr
  obtain ⟨mA, O, _⟩ := ins_get I.hok ha
  obtain ⟨od, J, _⟩ := O.look
  obtain ⟨mB, O', _⟩ := ins_get I.hok hb'
  obtain ⟨od', J', _⟩ := O'.look
  show wpAny (model X.prog X.w) X.A (richCompare .NotEq (.ref a) (.ref b)) (EP X pins σ Q) X.xe s
  refine ne_K (tb := .ref C) (by have := hr.un; omega) fr I.ok.mod.kin J J'.type notFirst_self N hm.at_ hm.fn ?_
  have hl : ([.ref a, .ref b] : List Value).length = ps.length := by
    have e : Vals [V.ref a, .ref b] [Value.ref a, .ref b] := .cons rfl (.cons rfl .nil)
    rw [← e.length]
    exact FF.len _ _ _ _ h
  have hbt := hb s [.ref a, .ref b] I.kIn (by simpa using hl)
  rw [List.append_nil] at hbt
  refine wpAny_call (codeAny_mono (FF.run X.A.in1 X.stack s H ⟨[.ref a, .ref b], []⟩ [.ref a, .ref b] [.ref a, .ref b] _ E0 hr.in1 I.env0.in1 hbt (.cons rfl (.cons rfl .nil)) h) fun r s' hq => ?_)
  cases r with
  | error e => exact hq.elim
  | ok fl =>
    cases fl with
    | ret u =>
      obtain ⟨z, H1, I1, rz, r, ez, q⟩ := I.after hq
      subst ez
      cases rz
      exact ⟨r, rfl, .bl (!r), H1, I1, rfl, q⟩
    | next => exact False.elim hq
    | brk => exact False.elim hq
    | cont => exact False.elim hq
def tAddX (C : Addr) (sp : Sp) (E : L2.St → XK) (ta tb : TE) : TE := fun σ H Q => ta σ H fun x H1 => tb σ H1 fun y H2 => ∃ a dx fs b dy gs, x = .ref a ∧ H2 a = some (.ins C dx fs) ∧ y = .ref b ∧ H2 b = some (.ins C dy gs) ∧ sp [x, y] H2 (fun v H3 => Q v H3) (E σ)
theorem pe_addX {l r : Expr} {pos : Pos} {ta tb : TE} {W : WX} (hl : PE X l ta) (hrt : PE X r tb) (G : MethX X.prog X.w X.K X.mg X.base k C "__add__" sp) (hr : Room k X.A) (hc : PySem.W.selfFirst X.K C = true) (tk : Takes X W) : PE X (.BinOp l .Add r pos) (tAddX C sp (WE W) ta tb) := by
  obtain ⟨f, fd, ps, FF, hm, hb, c⟩ := G.ex
  refine ⟨fun pins s σ H Q I h => ?_⟩
  refine wpAny_BinOp (binT hl hrt I h fun v u s2 x y H2 I2 rx ry q => ?_)
  obtain ⟨a, dx, fs, b, dy, gs, rfl, ha, rfl, hb', q⟩ := q
  obtain rfl : v = Value.ref a := rx
  obtain rfl : u = Value.ref b := ry
  obtain ⟨m, fr⟩ := I2.fr
  obtain ⟨mA, O, _⟩ := ins_get I2.hok ha
  obtain ⟨od, J, _⟩ := O.look
  obtain ⟨mB, O', _⟩ := ins_get I2.hok hb'
  obtain ⟨od', J', _⟩ := O'.look
  refine PySem.W.binop_K fr I2.ok.mod.kin J J'.type hc hm.at_ hm.fn (thn (run_fnS (us := [.ref a, .ref b]) (vs := [.ref a, .ref b]) FF hr hb (passAt tk σ) I2 (.cons rfl (.cons rfl .nil)) q) fun w s3 ⟨z, H3, I3, r3, q3⟩ => ?_)
  have nn : w ≠ .notImplemented := fun e => by
    subst e
    cases z <;> first | (cases r3; done) | (exact absurd r3 (by simp [RelV])) | (obtain ⟨_, e⟩ := r3; exact Value.noConfusion e)
  cases w <;> first | exact absurd rfl nn | exact ⟨z, H3, I3, r3, q3⟩
end
end My
namespace My
open PySem PySem.Spec PyProof.Rows L2
structure MakeDX (P : Program) (w : World) (K : PySem.W.Frag) (mg : Str → Option Value) (base : Heap) (k : Nat) (C : Addr) (x : Str) (dvs : List V) (sp : Sp) : Prop where
  ex : ∃ f fd ps, FnOk P w K mg base (L2.CX P w) k f fd ps sp ∧ Mk K C f ∧ Binds K fd ps [] ∧ (∃ ds, Vals dvs ds ∧ Binds K fd ps ds) ∧ mg x = some (.ref C)
theorem FunD.okX2 {P : Program} {w : World} {K : PySem.W.Frag} {mg : Str → Option Value} {base : Heap} {x q : Str} {st : Stmt} {f : Addr} {fd : FuncData} {N ps : List Str} {k : Nat} {sp : Sp} {dvs : List V} {kws : List (Str × V)} (F : FunD K x q (defArgs st) (defBody st) (defScope st) dvs kws f fd) (S : FnScope N ps (defScope st)) (len : ∀ vs H Q E, sp vs H Q E → vs.length = ps.length) (b : BodyX P w K mg base k N q st sp) : FnOk P w K mg base (L2.CX P w) (k + 1) f fd ps sp := by
  obtain ⟨oc, od, dV, kV, doc, pm, an, cdv, ct, osl, rfl, lk, hcd, _, _⟩ := F.ex
  exact fn_of lk hcd S len fun A outer s H vs Q E hr hsp => b f cdv A outer s H vs Q E hr hsp
theorem MethDAt.makeX {P : Program} {w : World} {K : PySem.W.Frag} {mg : Str → Option Value} {base : Heap} {k : Nat} {x q : Str} {C : Addr} {sp : Sp} {N ps : List Str} {st : Stmt} {dvs : List V} (D : MethDAt K C "__init__" q st ps dvs) (c : ClassAt K mg C x) (S : FnScope N ps (defScope st)) (len : ∀ vs H Q E, sp vs H Q E → vs.length = ps.length) (b : BodyX P w K mg base k N q st sp) : MakeDX P w K mg base (k + 1) C x dvs sp := by
  obtain ⟨f, fd, F, hm, hb, hd⟩ := D.ex
  exact ⟨f, fd, ps, FunD.okX2 F S len b, ⟨c.makes, hm.at_, hm.fn, c.kp⟩, hb, hd, c.mg⟩
section
variable {X : Cx} {k : Nat} {x : Str} {C : Addr} {sp : Sp} {p pos : Pos} {e : Expr} {es : List Expr} {t : TA} {dvs : List V} {W : WX}
theorem run_makeSD {f : Addr} {fd : FuncData} {ps : List Str} {CX : CXT} {pins : List (Addr × Obj)} {σ : L2.St} {H : Hp} {s : Shared} {Q : VK} {us ds : List Value} {vs : List V} {E : L2.St → XK} (M : Mk X.K C f) (F : FnOk X.prog X.w X.K X.mg X.base CX k f fd ps sp) (hr : Room (k + 1) X.A) (hb : Binds X.K fd ps ds) (hd : Vals dvs ds)
    (hx : PassesAt CX X σ (E σ)) (I : Inv X pins σ H s) (r : Vals vs us)
    (h : ∀ x dx, H x = none → H dx = none → dx ≠ x → sp (.ref x :: (vs ++ dvs)) (upd (upd H dx (.own x)) x (.ins C dx [])) (fun v H2 => v = .non ∧ Q (.ref x) H2) (E σ)) :
    wpAny (model X.prog X.w) X.A (call (.ref C) us) (EP X pins σ Q) X.xe s := by
  have hq := h (s.heap.objs.size + 1) s.heap.objs.size (I.hok.fresh (Nat.le_succ _)) (I.hok.fresh (Nat.le_refl _)) (Nat.ne_of_lt (Nat.lt_succ_self _))
  have I2 := Inv.made (C := C) I
  have r2 : Vals (V.ref (s.heap.objs.size + 1) :: (vs ++ dvs)) ((Value.ref (s.heap.objs.size + 1) :: us) ++ ds) := .cons rfl (r.append hd)
  have hl : ((Value.ref (s.heap.objs.size + 1) :: us) ++ ds).length = ps.length := by
    have e := r2.length
    rw [F.len _ _ _ _ hq] at e
    exact e.symm
  have hb2 := hb _ (Value.ref (s.heap.objs.size + 1) :: us) I2.kIn hl
  refine wpAny_call (make_map (f := f) I.kIn M.makes M.init (beq_iff_eq.mp M.fn) (codeAny_mono (F.run _ X.stack _ _ ⟨Value.ref (s.heap.objs.size + 1) :: us, []⟩ ((Value.ref (s.heap.objs.size + 1) :: us) ++ ds) _ _ (E σ) (hr.make C us [])
    (I2.env0.make C us []) hb2 r2 hq) fun r s' hq' => ?_))
  cases r with
  | error e => exact hx pins _ _ e s' I2 hq'
  | ok fl =>
    cases fl with
    | ret u =>
      obtain ⟨v, H', I3, rv, ev, q3⟩ := I2.after hq'
      subst ev
      exact ⟨rv, ⟨V.ref (s.heap.objs.size + 1), H', I3, rfl, q3⟩⟩
    | next => exact False.elim hq'
    | brk => exact False.elim hq'
    | cont => exact False.elim hq'
def tMakeDX (C : Addr) (sp : Sp) (dvs : List V) (E : L2.St → XK) (t : TA) : TE := fun σ H Q => t σ H fun vs H1 => ∀ x dx, H1 x = none → H1 dx = none → dx ≠ x →
  sp (.ref x :: (vs ++ dvs)) (upd (upd H1 dx (.own x)) x (.ins C dx [])) (fun v H2 => v = .non ∧ Q (.ref x) H2) (E σ)
theorem pe_makeDX (G : MakeDX X.prog X.w X.K X.mg X.base k C x dvs sp) (hr : Room (k + 1) X.A) (tk : Takes X W) (ha : PA X (e :: es) t) (hg : Gl X x := by rfl) (hdb : (x == ("__debug__" : Str)) = false := by decide)
    (he : starEach (e :: es) X.env = (false, eval e X.env) :: starEach es X.env := by rfl) (hpl : (backTo pos (starEach es X.env)).any (·.1) = false := by rfl) : PE X (.Call (.Name x p) (e :: es) [] pos) (tMakeDX C sp [] (WE W) t) := by
  obtain ⟨f, fd, ps, F, M, hb, _, hm⟩ := G.ex
  refine ⟨fun pins s σ H Q I h => ?_⟩
  refine wpAny_Call_Name_kw (ld_glob I hg hm ?_ hdb)
  refine PySem.W.callWith_K (h₀ := X.base) I.ok.mod.kin M.kp (thn (ha.run pos pins s σ H _ I h) fun us s1 ⟨vs, H1, I1, r, q⟩ => ⟨I1.kIn, ?_⟩) he hpl
  exact run_makeSD M F hr hb .nil (passAt tk σ) I1 r q
theorem pe_makeD1X (G : MakeDX X.prog X.w X.K X.mg X.base k C x dvs sp) (hr : Room (k + 1) X.A) (tk : Takes X W) (ha : PA X (e :: es) t) (hg : Gl X x := by rfl) (hdb : (x == ("__debug__" : Str)) = false := by decide)
    (he : starEach (e :: es) X.env = (false, eval e X.env) :: starEach es X.env := by rfl) (hpl : (backTo pos (starEach es X.env)).any (·.1) = false := by rfl) : PE X (.Call (.Name x p) (e :: es) [] pos) (tMakeDX C sp dvs (WE W) t) := by
  obtain ⟨f, fd, ps, F, M, _, ⟨ds, hd, hb⟩, hm⟩ := G.ex
  refine ⟨fun pins s σ H Q I h => ?_⟩
  refine wpAny_Call_Name_kw (ld_glob I hg hm ?_ hdb)
  refine PySem.W.callWith_K (h₀ := X.base) I.ok.mod.kin M.kp (thn (ha.run pos pins s σ H _ I h) fun us s1 ⟨vs, H1, I1, r, q⟩ => ⟨I1.kIn, ?_⟩) he hpl
  exact run_makeSD M F hr hb hd (passAt tk σ) I1 r q
end
theorem eqv_str2 (a b : Str) : PyData.eqv (.str a) (.str b) = decide (a = b) := by
  simp only [PyData.eqv]
  by_cases h : a = b <;> simp [h]
theorem eqv_bool2 (a b : Bool) : PyData.eqv (.bool a) (.bool b) = decide (a = b) := by
  simp only [PyData.eqv]
  cases a <;> cases b <;> rfl
theorem eqvAll_map {α : Type} (f : α → PyData) : ∀ (xs ys : List α), (∀ x ∈ xs, ∀ y ∈ ys, PyData.eqv (f x) (f y) = true → x = y) → PyData.eqvAll (xs.map f) (ys.map f) = true → xs = ys
  | [], [], _, _ => rfl
  | [], _ :: _, _, h => by simp [PyData.eqvAll] at h
  | _ :: _, [], _, h => by simp [PyData.eqvAll] at h
  | x :: xs, y :: ys, hf, h => by
    simp only [List.map_cons, PyData.eqvAll, Bool.and_eq_true] at h
    rw [hf x List.mem_cons_self y List.mem_cons_self h.1, eqvAll_map f xs ys (fun a ha b hb => hf a (List.mem_cons_of_mem _ ha) b (List.mem_cons_of_mem _ hb)) h.2]
theorem refD_eqv {r s : Ref} (h : PyData.eqv (refD r) (refD s) = true) : r = s := by
  unfold refD at h
  simp only [PyData.eqv, PyData.eqvAll, Bool.and_eq_true] at h
  obtain ⟨h1, h2, _⟩ := h
  have a := of_decide_eq_true ((eqv_str2 _ _).symm.trans (by simpa only [PyData.eqv] using h1))
  have b := of_decide_eq_true ((eqv_str2 _ _).symm.trans (by simpa only [PyData.eqv] using h2))
  exact Prod.ext a b
theorem entD_eqv {a b : Ent} (h : PyData.eqv (entD a) (entD b) = true) : a = b := by
  unfold entD refsD at h
  simp only [PyData.eqv, PyData.eqvAll, Bool.and_eq_true] at h
  obtain ⟨h1, h2, h3, _⟩ := h
  have e1 := of_decide_eq_true ((eqv_str2 _ _).symm.trans (by simpa only [PyData.eqv] using h1))
  have e2 := of_decide_eq_true ((eqv_bool2 _ _).symm.trans (by simpa only [PyData.eqv] using h2))
  have e3 := eqvAll_map refD _ _ (fun _ _ _ _ => refD_eqv) h3
  exact Prod.ext e1 (Prod.ext e2 e3)
theorem planD_eqv {p q : Plan} (h : PyData.eqv (planD p) (planD q) = true) : p = q := by
  unfold planD at h
  simp only [PyData.eqv] at h
  exact eqvAll_map entD _ _ (fun _ _ _ _ => entD_eqv) h
theorem planD_dec {p q : Plan} (g : Good p) : PyData.eqv (planD p) (planD q) = decide (p = q) := by
  by_cases h : p = q
  · subst h
    rw [g.fine.self]
    simp
  · rw [decide_eq_false h]
    cases c : PyData.eqv (planD p) (planD q) with
    | false => rfl
    | true => exact absurd (planD_eqv c) h
end My
namespace My
open PySem PySem.Spec PyProof.Rows L2
mutual
inductive Th (H : Hp) : V → PyData → Prop
  | non : Th H .non .none
  | bl (b : Bool) : Th H (.bl b) (.bool b)
  | int (i : Int) : Th H (.int i) (.int i)
  | str (x : Str) : Th H (.str x) (.str x)
  | tup {a : Addr} {xs : List V} {ds : List PyData} : H a = some (.tup xs) → ThAll H xs ds → Th H (.ref a) (.tuple ds)
  | lst {a : Addr} {xs : List V} {ds : List PyData} : H a = some (.lst xs) → ThAll H xs ds → Th H (.ref a) (.list ds)
inductive ThAll (H : Hp) : List V → List PyData → Prop
  | nil : ThAll H [] []
  | cons {v : V} {vs : List V} {d : PyData} {ds : List PyData} : Th H v d → ThAll H vs ds → ThAll H (v :: vs) (d :: ds)
end
section
variable {H H' : Hp} {K : PySem.W.Frag}
mutual
theorem Th.same (e : Same H H') : ∀ {v : V} {d : PyData}, Th H v d → Th H' v d
  | _, _, .non => .non
  | _, _, .bl b => .bl b
  | _, _, .int i => .int i
  | _, _, .str x => .str x
  | _, _, .tup h r => .tup (e _ _ h) (ThAll.same e r)
  | _, _, .lst h r => .lst (e _ _ h) (ThAll.same e r)
theorem ThAll.same (e : Same H H') : ∀ {vs : List V} {ds : List PyData}, ThAll H vs ds → ThAll H' vs ds
  | _, _, .nil => .nil
  | _, _, .cons h r => .cons (Th.same e h) (ThAll.same e r)
end
mutual
theorem Td.th : ∀ {v : V} {d : PyData}, Td H v d → Th H v d
  | _, _, .non => .non
  | _, _, .bl b => .bl b
  | _, _, .int i => .int i
  | _, _, .str x => .str x
  | _, _, .tup h r => .tup h (TdAll.th r)
theorem TdAll.th : ∀ {vs : List V} {ds : List PyData}, TdAll H vs ds → ThAll H vs ds
  | _, _, .nil => .nil
  | _, _, .cons h r => .cons (Td.th h) (TdAll.th r)
end
mutual
theorem Th.dp : ∀ {v : V} {d : PyData}, Th H v d → Dp K H v d
  | _, _, .non => .non
  | _, _, .bl b => .bl b
  | _, _, .int i => .int i
  | _, _, .str x => .str x
  | _, _, .tup h r => .tup (SqT.of h) (ThAll.dp r)
  | _, _, .lst h r => .lst (SqL.of h) (ThAll.dp r)
theorem ThAll.dp : ∀ {vs : List V} {ds : List PyData}, ThAll H vs ds → DpAll K H vs ds
  | _, _, .nil => .nil
  | _, _, .cons h r => .cons (Th.dp h) (ThAll.dp r)
end
theorem ThAll.length : ∀ {vs : List V} {ds : List PyData}, ThAll H vs ds → vs.length = ds.length
  | _, _, .nil => rfl
  | _, _, .cons _ r => by rw [List.length_cons, List.length_cons, ThAll.length r]
theorem ThAll.append : ∀ {vs ws : List V} {ds es : List PyData}, ThAll H vs ds → ThAll H ws es → ThAll H (vs ++ ws) (ds ++ es)
  | _, _, _, _, .nil, h => h
  | _, _, _, _, .cons a r, h => .cons a (ThAll.append r h)
theorem ThAll.get : ∀ {vs : List V} {ds : List PyData} {i : Nat} {v : V}, ThAll H vs ds → vs[i]? = some v → ∃ d, ds[i]? = some d ∧ Th H v d
  | _, _, _, _, .nil, h => by simp at h
  | _, _, 0, _, .cons a r, h => by
    simp at h
    subst h
    exact ⟨_, rfl, a⟩
  | _, _, i + 1, _, .cons a r, h => ThAll.get (i := i) r (by simpa using h)
theorem ThAll.get' : ∀ {vs : List V} {ds : List PyData} {i : Nat} {d : PyData}, ThAll H vs ds → ds[i]? = some d → ∃ v, vs[i]? = some v ∧ Th H v d
  | _, _, _, _, .nil, h => by simp at h
  | _, _, 0, _, .cons a r, h => by
    simp at h
    subst h
    exact ⟨_, rfl, a⟩
  | _, _, i + 1, _, .cons a r, h => ThAll.get' (i := i) r (by simpa using h)
theorem ThAll.take : ∀ {vs : List V} {ds : List PyData} (k : Nat), ThAll H vs ds → ThAll H (vs.take k) (ds.take k)
  | _, _, 0, _ => by simp only [List.take_zero]; exact .nil
  | _, _, k + 1, .nil => .nil
  | _, _, k + 1, .cons a r => .cons a (ThAll.take k r)
theorem ThAll.drop : ∀ {vs : List V} {ds : List PyData} (k : Nat), ThAll H vs ds → ThAll H (vs.drop k) (ds.drop k)
  | _, _, 0, h => h
  | _, _, k + 1, .nil => .nil
  | _, _, k + 1, .cons a r => ThAll.drop k r
theorem ThAll.set : ∀ {vs : List V} {ds : List PyData} (i : Nat) {v : V} {d : PyData}, ThAll H vs ds → Th H v d → ThAll H (vs.set i v) (ds.set i d)
  | _, _, _, _, _, .nil, _ => .nil
  | _, _, 0, _, _, .cons a r, h => .cons h r
  | _, _, i + 1, _, _, .cons a r, h => .cons a (ThAll.set i r h)
theorem ThAll.cut {xs : List V} {ds : List PyData} (h : ThAll H xs ds) (lo hi : Option Int) : ThAll H (cutV xs lo hi) (cutL ds lo hi) := by
  unfold cutV cutL
  rw [← h.length]
  exact (h.drop _).take _
theorem Th.ty {v : V} {d : PyData} (h : Th H v d) : ∃ t : String, TyX K H v (.type t) ∧ t = (match d with | .none => "NoneType" | .bool _ => "bool" | .int _ => "int" | .str _ => "str" | .list _ => "list" | .tuple _ => "tuple" | .dict _ => "dict") := by
  cases h with
  | non => exact ⟨_, .base .non, rfl⟩
  | bl b => exact ⟨_, .base (.bl b), rfl⟩
  | int i => exact ⟨_, .base (.int i), rfl⟩
  | str x => exact ⟨_, .base (.str x), rfl⟩
  | tup h r => exact ⟨_, .base (.tup h), rfl⟩
  | lst h r => exact ⟨_, .base (.lst h), rfl⟩
theorem Th.notStr {v : V} {d : PyData} (h : Th H v d) (n : ∀ x, d ≠ .str x) : ∃ t, TyX K H v t ∧ PySem.W.kitOne K t (.type "str") = some false := by
  cases h with
  | non => exact ⟨_, .base .non, kit_ty (by decide +kernel)⟩
  | bl b => exact ⟨_, .base (.bl b), kit_ty (by decide +kernel)⟩
  | int i => exact ⟨_, .base (.int i), kit_ty (by decide +kernel)⟩
  | str x => exact absurd rfl (n x)
  | tup h r => exact ⟨_, .base (.tup h), kit_ty (by decide +kernel)⟩
  | lst h r => exact ⟨_, .base (.lst h), kit_ty (by decide +kernel)⟩
theorem Th.notTup {v : V} {d : PyData} (h : Th H v d) (n : ∀ x, d ≠ .tuple x) : ∃ t, TyX K H v t ∧ PySem.W.kitOne K t (.type "tuple") = some false := by
  cases h with
  | non => exact ⟨_, .base .non, kit_ty (by decide +kernel)⟩
  | bl b => exact ⟨_, .base (.bl b), kit_ty (by decide +kernel)⟩
  | int i => exact ⟨_, .base (.int i), kit_ty (by decide +kernel)⟩
  | str x => exact ⟨_, .base (.str x), kit_ty (by decide +kernel)⟩
  | tup h r => exact absurd rfl (n _)
  | lst h r => exact ⟨_, .base (.lst h), kit_ty (by decide +kernel)⟩
def isBoolD : PyData → Bool
  | .bool _ => true
  | _ => false
def isStrD : PyData → Bool
  | .str _ => true
  | _ => false
theorem Th.askBool {v : V} {d : PyData} (h : Th H v d) : ∃ t, TyX K H v t ∧ PySem.W.kitOne K t (.type "bool") = some (isBoolD d) := by
  cases h with
  | non => exact ⟨_, .base .non, kit_ty (by decide +kernel)⟩
  | bl b => exact ⟨_, .base (.bl b), kit_ty (show kitB "bool" "bool" = some true by decide +kernel)⟩
  | int i => exact ⟨_, .base (.int i), kit_ty (show kitB "int" "bool" = some false by decide +kernel)⟩
  | str x => exact ⟨_, .base (.str x), kit_ty (show kitB "str" "bool" = some false by decide +kernel)⟩
  | tup h r => exact ⟨_, .base (.tup h), kit_ty (show kitB "tuple" "bool" = some false by decide +kernel)⟩
  | lst h r => exact ⟨_, .base (.lst h), kit_ty (show kitB "list" "bool" = some false by decide +kernel)⟩
theorem Th.askStr {v : V} {d : PyData} (h : Th H v d) : ∃ t, TyX K H v t ∧ PySem.W.kitOne K t (.type "str") = some (isStrD d) := by
  cases h with
  | non => exact ⟨_, .base .non, kit_ty (by decide +kernel)⟩
  | bl b => exact ⟨_, .base (.bl b), kit_ty (show kitB "bool" "str" = some false by decide +kernel)⟩
  | int i => exact ⟨_, .base (.int i), kit_ty (show kitB "int" "str" = some false by decide +kernel)⟩
  | str x => exact ⟨_, .base (.str x), kit_ty (show kitB "str" "str" = some true by decide +kernel)⟩
  | tup h r => exact ⟨_, .base (.tup h), kit_ty (show kitB "tuple" "str" = some false by decide +kernel)⟩
  | lst h r => exact ⟨_, .base (.lst h), kit_ty (show kitB "list" "str" = some false by decide +kernel)⟩
theorem Th.tup_inv {v : V} {ds : List PyData} (h : Th H v (.tuple ds)) : ∃ a xs, v = .ref a ∧ H a = some (.tup xs) ∧ ThAll H xs ds := by
  cases h with
  | tup h r => exact ⟨_, _, rfl, h, r⟩
theorem Th.str_inv {v : V} {x : Str} (h : Th H v (.str x)) : v = .str x := by cases h; rfl
theorem Th.bl_inv {v : V} {b : Bool} (h : Th H v (.bool b)) : v = .bl b := by cases h; rfl
end
def isD (b : Bool) : PyData → Bool
  | .bool a => decide (a = b)
  | _ => false
theorem isD_or (d : PyData) : (isD true d || isD false d) = isBoolD d := by
  cases d with
  | bool b => cases b <;> rfl
  | none => rfl
  | int _ => rfl
  | str _ => rfl
  | list _ => rfl
  | tuple _ => rfl
  | dict _ => rfl
def rIsAny : R2 := fun x y H Q => ∃ (b : Bool) (d : PyData), y = .bl b ∧ Th H x d ∧ Q (.bl (isD b d)) H
theorem op_isAny {X : Cx} : OpR X (compareOp .Is) rIsAny := by
  intro pins s σ H x y v u Q I rx ry h
  obtain ⟨b, d, rfl, hT, q⟩ := h
  have ru : u = Value.bool b := ry
  subst ru
  cases hT with
  | bl a => exact op_isBl pins s σ H (.bl a) (.bl b) v _ Q I rx ry ⟨a, b, rfl, rfl, q⟩
  | non =>
    cases (show v = Value.none from rx)
    exact wpAny_is_other rfl (fun z => nomatch z) ⟨.bl false, H, I, rfl, q⟩
  | int i =>
    obtain ⟨t, rfl⟩ := (show ∃ t, v = Value.int i t from rx)
    exact wpAny_is_other rfl (fun z => nomatch z) ⟨.bl false, H, I, rfl, q⟩
  | str w =>
    obtain ⟨t, rfl⟩ := (show ∃ t, v = Value.str w t from rx)
    exact wpAny_is_other rfl (fun z => nomatch z) ⟨.bl false, H, I, rfl, q⟩
  | tup h r =>
    cases (show v = Value.ref _ from rx)
    exact wpAny_is_other rfl (fun z => nomatch z) ⟨.bl false, H, I, rfl, q⟩
  | lst h r =>
    cases (show v = Value.ref _ from rx)
    exact wpAny_is_other rfl (fun z => nomatch z) ⟨.bl false, H, I, rfl, q⟩
end My
namespace My
open PySem PySem.Spec PyProof.Rows L2
def rSlH : V → Option Int → Option Int → Hp → VK → Prop := fun x lo hi H Q => ∃ ds, Th H x (.tuple ds) ∧ ∀ v H', Same H H' → Th H' v (.tuple (cutL ds lo hi)) → Q v H'
theorem sl_tupH {X : Cx} : SlR X rSlH := by
  intro pins s σ H x v vl vu lo hi sl Q I rx hs pl pu h
  obtain ⟨ds, hT, q⟩ := h
  obtain ⟨a, xs, rfl, ha, hx⟩ := hT.tup_inv
  refine sl_tupA pins s σ H _ v vl vu lo hi sl Q I rx hs pl pu ⟨a, xs, rfl, SqT.of ha, fun hw => ?_, fun _ p hp => ?_⟩
  · have e : cutL ds lo hi = ds := by
      unfold cutL
      rw [← hx.length, hw.1, hw.2, List.drop_zero, Nat.sub_zero, hx.length, List.take_length]
    refine q _ _ (Same.refl H) ?_
    rw [e]
    exact .tup ha hx
  · have t1 := Same.upd (o := .tup (cutV xs lo hi)) (Same.refl H) hp
    exact q _ _ t1 (.tup upd_same ((hx.cut lo hi).same t1))
def rCatH : R2 := fun x y H Q => ∃ ds es, Th H x (.tuple ds) ∧ Th H y (.tuple es) ∧ ds.length + es.length ≤ 1000 ∧ ∀ v H', Same H H' → Th H' v (.tuple (ds ++ es)) → Q v H'
theorem op_catH {X : Cx} : OpR X (binaryOp .Add) rCatH := by
  intro pins s σ H x y v u Q I rx ry h
  obtain ⟨ds, es, hT, hU, hl, q⟩ := h
  obtain ⟨a, xs, rfl, ha, hx⟩ := hT.tup_inv
  obtain ⟨b, ys, rfl, hb, hy⟩ := hU.tup_inv
  refine op_catA pins s σ H _ _ v u Q I rx ry ⟨a, b, xs, ys, rfl, rfl, SqT.of ha, SqT.of hb, ?_, fun h0 => ?_, fun _ h0 => ?_, fun _ _ p hp => ?_⟩
  · rw [hx.length, hy.length]
    exact Nat.le_trans hl (by decide)
  · subst h0
    cases hx
    exact q _ _ (Same.refl H) (.tup hb hy)
  · subst h0
    cases hy
    refine q _ _ (Same.refl H) ?_
    rw [List.append_nil]
    exact .tup ha hx
  · have t1 := Same.upd (o := .tup (xs ++ ys)) (Same.refl H) hp
    exact q _ _ t1 (.tup upd_same ((hx.append hy).same t1))
def prs (pl : Plan) : List Ref := pl.flatMap fun e => e.2.2.map fun r => (e.1, r.1)
def oneOfB (d : PyData) (ws : List Str) : Bool := match d with
  | .str x => decide (x ∈ ws)
  | _ => false
def pairB (a b : PyData) (ps : List Ref) : Bool := match a, b with
  | .str x, .str y => decide ((x, y) ∈ ps)
  | _, _ => false
def loadB (pl : Plan) (w t m f : PyData) : Bool := oneOfB w ["load"] && (oneOfB m ["raw", "blank", "refuse"] && (isBoolD f && oneOfB t (pl.map (·.1))))
def colB (pl : Plan) (w t c : PyData) : Bool := oneOfB w ["patch", "fill", "sweep"] && pairB t c (prs pl)
def stepB (pl : Plan) : PyData → Bool
  | .tuple [w, t, m, f] => loadB pl w t m f
  | .tuple [w, t, c] => colB pl w t c
  | _ => false
theorem oneOf_inv {d : PyData} {ws : List Str} (h : oneOfB d ws = true) : ∃ x, d = .str x ∧ x ∈ ws := by
  unfold oneOfB at h
  cases d with
  | str x => exact ⟨x, rfl, of_decide_eq_true h⟩
  | none => cases h
  | bool _ => cases h
  | int _ => cases h
  | list _ => cases h
  | tuple _ => cases h
  | dict _ => cases h
theorem isBoolD_inv {d : PyData} (h : isBoolD d = true) : ∃ b, d = .bool b := by
  unfold isBoolD at h
  cases d with
  | bool b => exact ⟨b, rfl⟩
  | none => cases h
  | str _ => cases h
  | int _ => cases h
  | list _ => cases h
  | tuple _ => cases h
  | dict _ => cases h
theorem prs_iff {pl : Plan} {n c : Str} : ((n, c) : Ref) ∈ prs pl ↔ ∃ e ∈ pl, e.1 = n ∧ c ∈ e.2.2.map (·.1) := by
  constructor
  · intro h
    obtain ⟨e, he, h⟩ := List.mem_flatMap.mp h
    obtain ⟨x, hx, hq⟩ := List.mem_map.mp h
    exact ⟨e, he, (Prod.mk.inj hq).1, List.mem_map.mpr ⟨x, hx, (Prod.mk.inj hq).2⟩⟩
  · rintro ⟨e, he, rfl, hc⟩
    obtain ⟨r, hr, rfl⟩ := List.mem_map.mp hc
    exact List.mem_flatMap.mpr ⟨e, he, List.mem_map.mpr ⟨r, hr, rfl⟩⟩
theorem stepB_step {pl : Plan} {d : PyData} (h : stepB pl d = true) : StepD pl d := by
  unfold stepB at h
  split at h
  · rename_i w t m f
    unfold loadB at h
    simp only [Bool.and_eq_true] at h
    obtain ⟨h1, h2, h3, h4⟩ := h
    obtain ⟨x, rfl, hx⟩ := oneOf_inv h1
    obtain ⟨y, rfl, hy⟩ := oneOf_inv h2
    obtain ⟨b, rfl⟩ := isBoolD_inv h3
    obtain ⟨n, rfl, hn⟩ := oneOf_inv h4
    obtain rfl := List.mem_singleton.mp hx
    exact .load n y b hn hy
  · rename_i w t c
    unfold colB at h
    simp only [Bool.and_eq_true] at h
    obtain ⟨h1, h2⟩ := h
    obtain ⟨x, rfl, hx⟩ := oneOf_inv h1
    unfold pairB at h2
    split at h2
    · exact .col _ _ _ hx (prs_iff.mp (of_decide_eq_true h2))
    · cases h2
  · cases h
theorem step_stepB {pl : Plan} {d : PyData} (h : StepD pl d) : stepB pl d = true := by
  cases h with
  | load n m b hn hm =>
    show loadB pl _ _ _ _ = true
    unfold loadB
    have h1 : oneOfB (.str "load") ["load"] = true := by decide +kernel
    have h2 : oneOfB (.str m) ["raw", "blank", "refuse"] = true := decide_eq_true hm
    have h4 : oneOfB (.str n) (pl.map (·.1)) = true := decide_eq_true hn
    rw [h1, h2, h4]
    rfl
  | col w n c hw hc =>
    show colB pl _ _ _ = true
    unfold colB
    have h1 : oneOfB (.str w) ["patch", "fill", "sweep"] = true := decide_eq_true hw
    have h2 : pairB (.str n) (.str c) (prs pl) = true := decide_eq_true (prs_iff.mpr hc)
    rw [h1, h2]
    rfl
def badAt (pl : Plan) : Nat → List PyData → Option Nat
  | _, [] => none
  | i, d :: r => if 20 ≤ i ∨ stepB pl d = false then some i else badAt pl (i + 1) r
section
variable {CP CS : Addr}
theorem isStrD_not {d : PyData} (h : isStrD d = false) : ∀ x, d ≠ .str x := fun x e => by
  subst e
  cases h
theorem oneOfB_no {d : PyData} {ws : List Str} (h : ∀ x, d ≠ .str x) : oneOfB d ws = false := by
  unfold oneOfB
  cases d with
  | str x => exact absurd rfl (h x)
  | none => rfl
  | bool _ => rfl
  | int _ => rfl
  | list _ => rfl
  | tuple _ => rfl
  | dict _ => rfl
theorem isStrD_inv {d : PyData} (h : isStrD d = true) : ∃ x, d = .str x := by
  cases d with
  | str x => exact ⟨x, rfl⟩
  | none => cases h
  | bool _ => cases h
  | int _ => cases h
  | list _ => cases h
  | tuple _ => cases h
  | dict _ => cases h
end
theorem ThAll.two {H : Hp} {xs : List V} {a b : PyData} (h : ThAll H xs [a, b]) : ∃ x y, xs = [x, y] ∧ Th H x a ∧ Th H y b := by
  cases h with
  | cons h0 r => cases r with
    | cons h1 r => cases r with
      | nil => exact ⟨_, _, rfl, h0, h1⟩
theorem ThAll.three {H : Hp} {xs : List V} {a b c : PyData} (h : ThAll H xs [a, b, c]) : ∃ x y z, xs = [x, y, z] ∧ Th H x a ∧ Th H y b ∧ Th H z c := by
  cases h with
  | cons h0 r => cases r with
    | cons h1 r => cases r with
      | cons h2 r => cases r with
        | nil => exact ⟨_, _, _, rfl, h0, h1, h2⟩
theorem ThAll.four {H : Hp} {xs : List V} {a b c d : PyData} (h : ThAll H xs [a, b, c, d]) : ∃ x y z w, xs = [x, y, z, w] ∧ Th H x a ∧ Th H y b ∧ Th H z c ∧ Th H w d := by
  cases h with
  | cons h0 r => cases r with
    | cons h1 r => cases r with
      | cons h2 r => cases r with
        | cons h3 r => cases r with
          | nil => exact ⟨_, _, _, _, rfl, h0, h1, h2, h3⟩
theorem refs_any (x y : Str) (ps : List Ref) : ((ps.map refD).any fun z => PyData.eqv z (refD (x, y))) = decide ((x, y) ∈ ps) := by
  rw [Bool.eq_iff_iff, List.any_eq_true, decide_eq_true_iff]
  constructor
  · rintro ⟨z, hz, he⟩
    obtain ⟨r, hr, rfl⟩ := List.mem_map.mp hz
    rw [← refD_eqv he]
    exact hr
  · intro h
    refine ⟨_, List.mem_map.mpr ⟨_, h, rfl⟩, ?_⟩
    show PyData.eqv (.tuple [.str x, .str y]) (.tuple [.str x, .str y]) = true
    simp [PyData.eqv, PyData.eqvAll]
theorem canAll_inv : ∀ {ds : List PyData}, PyData.canLayAll0 ds = true → ∀ d ∈ ds, d.canLay0 = true
  | [], _, _, h => absurd h (List.not_mem_nil)
  | d :: r, h, x, hx => by
    simp only [PyData.canLayAll0, Bool.and_eq_true] at h
    rcases List.mem_cons.mp hx with rfl | hx
    · exact h.1
    · exact canAll_inv h.2 x hx
theorem can_tup {ds : List PyData} (h : (PyData.tuple ds).canLay0 = true) : ∀ d ∈ ds, d.canLay0 = true := by
  simp only [PyData.canLay0] at h
  exact canAll_inv h
theorem can_str {x : Str} (h : (PyData.str x).canLay0 = true) : Fine 1 (.str x) := ⟨h, by simp only [PyData.depth]; omega⟩
theorem badAt_none {pl : Plan} : ∀ {ds : List PyData} {i : Nat}, badAt pl i ds = none → ∀ d ∈ ds, stepB pl d = true
  | [], _, _, _, h => absurd h (List.not_mem_nil)
  | d :: r, i, h, x, hx => by
    unfold badAt at h
    split at h
    · cases h
    · rename_i c
      rcases List.mem_cons.mp hx with rfl | hx
      · cases e : stepB pl x with
        | true => rfl
        | false => exact absurd (.inr e) c
      · exact badAt_none h x hx
theorem badAt_at {pl : Plan} {ds : List PyData} {i : Nat} {d : PyData} (h : ds[i]? = some d) : badAt pl i (ds.drop i) = if 20 ≤ i ∨ stepB pl d = false then some i else badAt pl (i + 1) (ds.drop (i + 1)) := by
  have hi := (List.getElem?_eq_some_iff.mp h).1
  rw [List.drop_eq_getElem_cons hi, (List.getElem?_eq_some_iff.mp h).2]
  rfl
theorem badAt_end {pl : Plan} {ds : List PyData} : badAt pl ds.length (ds.drop ds.length) = none := by
  rw [List.drop_length]
  rfl
theorem Th.step {H : Hp} {pl : Plan} {v : V} {d : PyData} (h : Th H v d) (s : StepD pl d) : Td H v d := by
  cases s with
  | load n m b hn hm =>
    obtain ⟨a, xs, rfl, ha, hx⟩ := h.tup_inv
    obtain ⟨x, y, z, w, rfl, h0, h1, h2, h3⟩ := hx.four
    rw [h0.str_inv, h1.str_inv, h2.str_inv, h3.bl_inv] at ha
    exact .tup ha (.cons (.str _) (.cons (.str _) (.cons (.str _) (.cons (.bl _) .nil))))
  | col w n c hw hc =>
    obtain ⟨a, xs, rfl, ha, hx⟩ := h.tup_inv
    obtain ⟨x, y, z, rfl, h0, h1, h2⟩ := hx.three
    rw [h0.str_inv, h1.str_inv, h2.str_inv] at ha
    exact .tup ha (.cons (.str _) (.cons (.str _) (.cons (.str _) .nil)))
theorem ThAll.steps {H : Hp} {pl : Plan} : ∀ {vs : List V} {ds : List PyData}, ThAll H vs ds → (∀ d ∈ ds, StepD pl d) → TdAll H vs ds
  | _, _, .nil, _ => .nil
  | _, _, .cons h r, s => .cons (h.step (s _ List.mem_cons_self)) (ThAll.steps r fun d hd => s d (List.mem_cons_of_mem _ hd))
def nw (H H' : Hp) : Hp := fun c => match H c with
  | some (.lst _) => none
  | _ => H' c
section
variable {H H' H1 H2 : Hp} {a c : Addr} {o : HO} {n : Nat}
theorem nw_of (h : H' c = some o) (k : ∀ ys, H c ≠ some (.lst ys)) : nw H H' c = some o := by
  unfold nw
  split
  · rename_i ys e
    exact absurd e (k ys)
  · exact h
theorem nw_inv (h : nw H H' c = some o) : H' c = some o ∧ ∀ ys, H c ≠ some (.lst ys) := by
  unfold nw at h
  split at h
  · cases h
  · rename_i k
    exact ⟨h, k⟩
theorem nw_same : Same (nw H H') H' := fun _ _ h => (nw_inv h).1
theorem nw_kt (S : StAt H' a n) (e : Fr1 a H H') : KT H' (nw H H') := fun c ys h => by
  refine nw_of h fun zs hz => ?_
  by_cases ca : c = a
  · subst ca
    obtain ⟨xs, hx⟩ := S.lst
    rw [hx] at h
    cases h
  · have := e _ _ ca hz
    rw [this] at h
    cases h
theorem nw_on {ys : List V} (e : Fr1 a H1 H2) (ha : H a = some (.lst ys)) : Same (nw H H1) (nw H H2) := fun c o h => by
  obtain ⟨h1, h2⟩ := nw_inv h
  exact nw_of (e _ _ (fun z => h2 ys (z ▸ ha)) h1) h2
theorem nw_go (e : Same H1 H2) : Same (nw H H1) (nw H H2) := fun c o h => by
  obtain ⟨h1, h2⟩ := nw_inv h
  exact nw_of (e _ _ h1) h2
theorem nw_back (S : StAt H1 a n) (e : Fr1 a H H1) : Same (nw H1 H2) (nw H H2) := fun c o h => by
  obtain ⟨h1, h2⟩ := nw_inv h
  refine nw_of h1 fun zs hz => ?_
  by_cases ca : c = a
  · subst ca
    obtain ⟨xs, hx⟩ := S.lst
    exact h2 _ hx
  · exact h2 _ (e _ _ ca hz)
theorem nw_free (h : H' c = some o) (k : H c = none) : nw H H' c = some o := nw_of h fun ys e => by
  rw [k] at e
  cases e
end
def rCatN : R2 := fun x y H Q => ∃ H0 ds es, Th (nw H0 H) x (.tuple ds) ∧ Th (nw H0 H) y (.tuple es) ∧ (∀ c ys, H0 c = some (.lst ys) → ∃ o, H c = some o) ∧ ds.length + es.length ≤ 1000 ∧ ∀ v H', Same H H' → Th (nw H0 H') v (.tuple (ds ++ es)) → Q v H'
theorem op_catN {X : Cx} : OpR X (binaryOp .Add) rCatN := by
  intro pins s σ H x y v u Q I rx ry h
  obtain ⟨H0, ds, es, hT, hU, hk, hl, q⟩ := h
  obtain ⟨a, xs, rfl, ha0, hx⟩ := hT.tup_inv
  obtain ⟨b, ys, rfl, hb0, hy⟩ := hU.tup_inv
  have ha := (nw_inv ha0).1
  have hb := (nw_inv hb0).1
  refine op_catA pins s σ H _ _ v u Q I rx ry ⟨a, b, xs, ys, rfl, rfl, SqT.of ha, SqT.of hb, ?_, fun h0 => ?_, fun _ h0 => ?_, fun _ _ p hp => ?_⟩
  · rw [hx.length, hy.length]
    exact Nat.le_trans hl (by decide)
  · subst h0
    cases hx
    exact q _ _ (Same.refl H) (.tup hb0 hy)
  · subst h0
    cases hy
    refine q _ _ (Same.refl H) ?_
    rw [List.append_nil]
    exact .tup ha0 hx
  · have t1 := Same.upd (o := .tup (xs ++ ys)) (Same.refl H) hp
    refine q _ _ t1 (.tup (nw_of upd_same fun zs hz => ?_) ((hx.append hy).same (nw_go t1)))
    obtain ⟨o, ho⟩ := hk _ _ hz
    rw [hp] at ho
    cases ho
theorem nw_stay {H H' : Hp} {a : Addr} {n : Nat} (S : StAt H' a n) (e : Fr1 a H H') : ∀ c ys, H c = some (.lst ys) → ∃ o, H' c = some o := fun c ys h => by
  by_cases ca : c = a
  · subst ca
    obtain ⟨xs, hx⟩ := S.lst
    exact ⟨_, hx⟩
  · exact ⟨_, e _ _ ca h⟩
theorem Td.new {H H' : Hp} {a : Addr} {n : Nat} {v : V} {d : PyData} (h : Td H' v d) (S : StAt H' a n) (e : Fr1 a H H') : Th (nw H H') v d := (h.mono (nw_kt S e)).th
end My
namespace My
open PySem PySem.Spec PyProof.Rows L2
inductive Sh : PyData → Prop
  | none : Sh .none
  | bool (b : Bool) : Sh (.bool b)
  | int (i : Int) : Sh (.int i)
  | str (x : Str) : x.length ≤ 1000 → Sh (.str x)
  | tuple (ds : List PyData) : (∀ d ∈ ds, Sh d) → Sh (.tuple ds)
  | list (ds : List PyData) : (∀ d ∈ ds, Sh d) → Sh (.list ds)
  | dict : Sh (.dict [])
theorem Sh.of_str {x : Str} (h : Sh (.str x)) : x.length ≤ 1000 := by cases h; assumption
theorem Sh.of_tup {ds : List PyData} (h : Sh (.tuple ds)) : ∀ d ∈ ds, Sh d := by cases h; assumption
def azB (c : Nat) : Bool := decide (97 ≤ c ∧ c ≤ 122)
def nameB : PyData → Bool
  | .str x => decide (1 ≤ x.length ∧ x.length ≤ 8) && (cd x).all azB
  | _ => false
def refB : PyData → Bool
  | .tuple [a, b] => nameB a && nameB b
  | _ => false
def fstS : PyData → Str
  | .tuple (.str x :: _) => x
  | _ => ""
def refsB : PyData → Bool
  | .tuple ds => decide (ds.length ≤ 3) && (ds.all refB && decide ((ds.map fstS).Nodup))
  | _ => false
def tabB : PyData → Bool
  | .tuple [n, u, r] => nameB n && (isBoolD u && refsB r)
  | _ => false
def tabsB : PyData → Bool
  | .tuple ds => decide (1 ≤ ds.length ∧ ds.length ≤ 5) && (ds.all tabB && decide ((ds.map fstS).Nodup))
  | _ => false
theorem nameB_inv {d : PyData} (h : nameB d = true) : ∃ x, d = .str x ∧ Nm x := by
  unfold nameB at h
  cases d with
  | str x =>
    simp only [Bool.and_eq_true, decide_eq_true_eq] at h
    exact ⟨x, rfl, Nm.of rfl (by rw [← cd_len]; exact h.1.1) (by rw [← cd_len]; exact h.1.2) fun c hc => of_decide_eq_true (List.all_eq_true.mp h.2 c hc)⟩
  | none => cases h
  | bool _ => cases h
  | int _ => cases h
  | list _ => cases h
  | tuple _ => cases h
  | dict _ => cases h
theorem nameB_nm {x : Str} (h : Nm x) : nameB (.str x) = true := by
  unfold nameB
  simp only [Bool.and_eq_true, decide_eq_true_eq]
  exact ⟨⟨h.lo, h.hi⟩, List.all_eq_true.mpr fun c hc => decide_eq_true (h.az c hc)⟩
theorem nameB_not {d : PyData} (h : ∀ x, d ≠ .str x) : nameB d = false := by
  unfold nameB
  cases d with
  | str x => exact absurd rfl (h x)
  | none => rfl
  | bool _ => rfl
  | int _ => rfl
  | list _ => rfl
  | tuple _ => rfl
  | dict _ => rfl
theorem refB_inv {d : PyData} (h : refB d = true) : ∃ r : Ref, d = refD r ∧ Nm r.1 ∧ Nm r.2 := by
  unfold refB at h
  split at h
  · simp only [Bool.and_eq_true] at h
    obtain ⟨x, rfl, hx⟩ := nameB_inv h.1
    obtain ⟨y, rfl, hy⟩ := nameB_inv h.2
    exact ⟨(x, y), rfl, hx, hy⟩
  · cases h
theorem refB_ref {r : Ref} (h1 : Nm r.1) (h2 : Nm r.2) : refB (refD r) = true := by
  show (nameB (.str r.1) && nameB (.str r.2)) = true
  rw [nameB_nm h1, nameB_nm h2]
  rfl
theorem refB_tup {d : PyData} (h : ∀ ds, d ≠ .tuple ds) : refB d = false := by
  unfold refB
  split
  · exact absurd rfl (h _)
  · rfl
theorem refB_len {ds : List PyData} (h : ds.length ≠ 2) : refB (.tuple ds) = false := by
  unfold refB
  split
  · rename_i e
    cases e
    exact absurd rfl h
  · rfl
theorem tabB_tup {d : PyData} (h : ∀ ds, d ≠ .tuple ds) : tabB d = false := by
  unfold tabB
  split
  · exact absurd rfl (h _)
  · rfl
theorem tabB_len {ds : List PyData} (h : ds.length ≠ 3) : tabB (.tuple ds) = false := by
  unfold tabB
  split
  · rename_i e
    cases e
    exact absurd rfl h
  · rfl
theorem refsB_tup {d : PyData} (h : ∀ ds, d ≠ .tuple ds) : refsB d = false := by
  unfold refsB
  split
  · exact absurd rfl (h _)
  · rfl
theorem tabsB_tup {d : PyData} (h : ∀ ds, d ≠ .tuple ds) : tabsB d = false := by
  unfold tabsB
  split
  · exact absurd rfl (h _)
  · rfl
theorem map_of {α : Type} {f : α → PyData} {p : α → Prop} : ∀ {ds : List PyData}, (∀ d ∈ ds, ∃ a, d = f a ∧ p a) → ∃ xs : List α, ds = xs.map f ∧ ∀ a ∈ xs, p a
  | [], _ => ⟨[], rfl, by simp⟩
  | d :: r, h => by
    obtain ⟨a, rfl, pa⟩ := h d List.mem_cons_self
    obtain ⟨xs, rfl, px⟩ := map_of (ds := r) fun x hx => h x (List.mem_cons_of_mem _ hx)
    exact ⟨a :: xs, rfl, fun y hy => by
      rcases List.mem_cons.mp hy with rfl | hy
      · exact pa
      · exact px y hy⟩
structure GoodRefs0 (rs : List Ref) : Prop where
  len : rs.length ≤ 3
  nm : ∀ r ∈ rs, Nm r.1 ∧ Nm r.2
  nd : (rs.map (·.1)).Nodup
theorem fst_refs (rs : List Ref) : (rs.map refD).map fstS = rs.map (·.1) := by
  rw [List.map_map]
  rfl
theorem fst_ents (es : List Ent) : (es.map entD).map fstS = es.map (·.1) := by
  rw [List.map_map]
  rfl
theorem refsB_inv {d : PyData} (h : refsB d = true) : ∃ rs, d = refsD rs ∧ GoodRefs0 rs := by
  unfold refsB at h
  split at h
  · simp only [Bool.and_eq_true, decide_eq_true_eq, List.all_eq_true] at h
    obtain ⟨h1, h2, h3⟩ := h
    obtain ⟨rs, rfl, hr⟩ := map_of (f := refD) (p := fun r => Nm r.1 ∧ Nm r.2) fun d hd => refB_inv (h2 d hd)
    rw [List.length_map] at h1
    rw [fst_refs] at h3
    exact ⟨rs, rfl, h1, hr, h3⟩
  · cases h
theorem refsB_refs {rs : List Ref} (g : GoodRefs0 rs) : refsB (refsD rs) = true := by
  show (decide ((rs.map refD).length ≤ 3) && ((rs.map refD).all refB && decide (((rs.map refD).map fstS).Nodup))) = true
  rw [List.length_map, fst_refs]
  simp only [Bool.and_eq_true, decide_eq_true_eq, List.all_eq_true]
  refine ⟨g.len, fun d hd => ?_, g.nd⟩
  obtain ⟨r, hr, rfl⟩ := List.mem_map.mp hd
  exact refB_ref (g.nm r hr).1 (g.nm r hr).2
structure Good0 (p : Plan) : Prop where
  lo : 1 ≤ p.length
  hi : p.length ≤ 5
  nm : ∀ e ∈ p, Nm e.1
  nd : (p.map (·.1)).Nodup
  refs : ∀ e ∈ p, GoodRefs0 e.2.2
theorem tabB_inv {d : PyData} (h : tabB d = true) : ∃ e : Ent, d = entD e ∧ Nm e.1 ∧ GoodRefs0 e.2.2 := by
  unfold tabB at h
  split at h
  · simp only [Bool.and_eq_true] at h
    obtain ⟨h1, h2, h3⟩ := h
    obtain ⟨x, rfl, hx⟩ := nameB_inv h1
    obtain ⟨b, rfl⟩ := isBoolD_inv h2
    obtain ⟨rs, rfl, g⟩ := refsB_inv h3
    exact ⟨(x, b, rs), rfl, hx, g⟩
  · cases h
theorem tabB_ent {e : Ent} (h1 : Nm e.1) (h2 : GoodRefs0 e.2.2) : tabB (entD e) = true := by
  show (nameB (.str e.1) && (isBoolD (.bool e.2.1) && refsB (refsD e.2.2))) = true
  rw [nameB_nm h1, refsB_refs h2]
  rfl
theorem tabsB_inv {d : PyData} (h : tabsB d = true) : ∃ pl, d = planD pl ∧ Good0 pl := by
  unfold tabsB at h
  split at h
  · simp only [Bool.and_eq_true, decide_eq_true_eq, List.all_eq_true] at h
    obtain ⟨⟨h0, h1⟩, h2, h3⟩ := h
    obtain ⟨pl, rfl, hp⟩ := map_of (f := entD) (p := fun e => Nm e.1 ∧ GoodRefs0 e.2.2) fun d hd => tabB_inv (h2 d hd)
    rw [List.length_map] at h0 h1
    rw [fst_ents] at h3
    exact ⟨pl, rfl, h0, h1, fun e he => (hp e he).1, h3, fun e he => (hp e he).2⟩
  · cases h
theorem tabsB_plan {pl : Plan} (g : Good0 pl) : tabsB (planD pl) = true := by
  show (decide (1 ≤ (pl.map entD).length ∧ (pl.map entD).length ≤ 5) && ((pl.map entD).all tabB && decide (((pl.map entD).map fstS).Nodup))) = true
  rw [List.length_map, fst_ents]
  simp only [Bool.and_eq_true, decide_eq_true_eq, List.all_eq_true]
  refine ⟨⟨g.lo, g.hi⟩, fun d hd => ?_, g.nd⟩
  obtain ⟨e, he, rfl⟩ := List.mem_map.mp hd
  exact tabB_ent (g.nm e he) (g.refs e he)
theorem Good.zero {pl : Plan} (g : Good pl) : Good0 pl := ⟨g.lo, g.hi, g.nm, g.nd, fun e he => ⟨(g.refs e he).len, fun r hr => ⟨(g.refs e he).nm r hr, g.toNm he hr⟩, (g.refs e he).nd⟩⟩
def toB (pl : Plan) : Bool := pl.all fun e => e.2.2.all fun r => decide (r.2 ∈ pl.map (·.1))
theorem Good0.good {pl : Plan} (g : Good0 pl) (h : toB pl = true) : Good pl := ⟨g.lo, g.hi, g.nm, g.nd, fun e he => ⟨(g.refs e he).len, fun r hr => ((g.refs e he).nm r hr).1, fun r hr => by
  have := List.all_eq_true.mp (List.all_eq_true.mp h e he) r hr
  exact of_decide_eq_true this, (g.refs e he).nd⟩⟩
theorem Good.toB {pl : Plan} (g : Good pl) : toB pl = true := List.all_eq_true.mpr fun e he => List.all_eq_true.mpr fun r hr => decide_eq_true ((g.refs e he).to r hr)
theorem Th.ref {H : Hp} {v : V} {r : Ref} (h : Th H v (refD r)) : Td H v (refD r) := by
  obtain ⟨a, xs, rfl, ha, hx⟩ := h.tup_inv
  obtain ⟨x, y, rfl, h0, h1⟩ := hx.two
  rw [h0.str_inv, h1.str_inv] at ha
  exact .tup ha (.cons (.str _) (.cons (.str _) .nil))
theorem ThAll.mapTd {α : Type} {H : Hp} {f : α → PyData} : ∀ {vs : List V} {xs : List α}, (∀ v, ∀ a ∈ xs, Th H v (f a) → Td H v (f a)) → ThAll H vs (xs.map f) → TdAll H vs (xs.map f)
  | _, [], _, h => by cases h; exact .nil
  | _, x :: r, k, h => by
    cases h with
    | cons h1 h2 => exact .cons (k _ x List.mem_cons_self h1) (ThAll.mapTd (fun v a ha => k v a (List.mem_cons_of_mem _ ha)) h2)
theorem Th.refs {H : Hp} {v : V} {rs : List Ref} (h : Th H v (refsD rs)) : Td H v (refsD rs) := by
  obtain ⟨a, xs, rfl, ha, hx⟩ := h.tup_inv
  exact .tup ha (hx.mapTd fun v a _ h => h.ref)
theorem Th.ent {H : Hp} {v : V} {e : Ent} (h : Th H v (entD e)) : Td H v (entD e) := by
  obtain ⟨a, xs, rfl, ha, hx⟩ := h.tup_inv
  obtain ⟨x, y, z, rfl, h0, h1, h2⟩ := hx.three
  rw [h0.str_inv, h1.bl_inv] at ha
  exact .tup ha (.cons (.str _) (.cons (.bl _) (.cons h2.refs .nil)))
theorem Th.plan {H : Hp} {v : V} {pl : Plan} (h : Th H v (planD pl)) : Td H v (planD pl) := by
  obtain ⟨a, xs, rfl, ha, hx⟩ := h.tup_inv
  exact .tup ha (hx.mapTd fun v a _ h => h.ent)
def ThT (H : Hp) (v : V) (d : PyData) : Prop := Th H v d ∨ (d = .dict [] ∧ ∃ a, v = .ref a ∧ H a = some (.dK []))
theorem ThT.notTup {K : PySem.W.Frag} {H : Hp} {v : V} {d : PyData} (h : ThT H v d) (n : ∀ x, d ≠ .tuple x) : ∃ t, TyX K H v t ∧ PySem.W.kitOne K t (.type "tuple") = some false := by
  rcases h with h | ⟨rfl, a, rfl, ha⟩
  · exact h.notTup n
  · exact ⟨_, .base (.dK ha), kit_ty (by decide +kernel)⟩
theorem ThT.tup {H : Hp} {v : V} {ds : List PyData} (h : ThT H v (.tuple ds)) : Th H v (.tuple ds) := by
  rcases h with h | ⟨e, _⟩
  · exact h
  · cases e
theorem ThT.same {H H' : Hp} {v : V} {d : PyData} (e : Same H H') (h : ThT H v d) : ThT H' v d := by
  rcases h with h | ⟨rfl, a, rfl, ha⟩
  · exact .inl (h.same e)
  · exact .inr ⟨rfl, a, rfl, e _ _ ha⟩
theorem tabsB_bad {ds : List PyData} {d : PyData} (h : d ∈ ds) (k : tabB d = false) : tabsB (.tuple ds) = false := by
  show (decide (1 ≤ ds.length ∧ ds.length ≤ 5) && (ds.all tabB && decide ((ds.map fstS).Nodup))) = false
  have : ds.all tabB = false := by
    cases e : ds.all tabB with
    | false => rfl
    | true => rw [List.all_eq_true.mp e d h] at k; cases k
  rw [this]
  simp
theorem tabsB_len {ds : List PyData} (h : ¬ (1 ≤ ds.length ∧ ds.length ≤ 5)) : tabsB (.tuple ds) = false := by
  show (decide (1 ≤ ds.length ∧ ds.length ≤ 5) && (ds.all tabB && decide ((ds.map fstS).Nodup))) = false
  rw [decide_eq_false h]
  rfl
theorem tabsB_dup {ds : List PyData} (h : ¬ (ds.map fstS).Nodup) : tabsB (.tuple ds) = false := by
  show (decide (1 ≤ ds.length ∧ ds.length ≤ 5) && (ds.all tabB && decide ((ds.map fstS).Nodup))) = false
  rw [decide_eq_false h]
  simp
theorem toB_bad {pl : Plan} {e : Ent} {r : Ref} (he : e ∈ pl) (hr : r ∈ e.2.2) (h : r.2 ∉ pl.map (·.1)) : toB pl = false := by
  cases k : toB pl with
  | false => rfl
  | true => exact absurd (of_decide_eq_true (List.all_eq_true.mp (List.all_eq_true.mp k e he) r hr)) h
end My
namespace My
open PySem PySem.Spec PySem.Calls PyProof.Rows L2
structure FnG (P : Program) (w : World) (K : PySem.W.Frag) (mg : Str → Option Value) (base : Heap) (k : Nat) (f : Addr) (fd : FuncData) (ps : List Str) (sp : Sp) : Prop where
  len : ∀ vs H Q E, sp vs H Q E → vs.length = ps.length
  run : ∀ (A : Around) (outer : List Env) (s : Shared) (H : Hp) (args : Args) (us : List Value) (vs : List V) (Q : VK) (E : XK), Room k A → A.guards = some [] →
    Env0 P w K mg base A outer s H → BindsTo s fd args (ps.zip us) → Vals vs us → sp vs H Q E → codeAny (model P w) A (.call (.ref f) args) (CR CX0 outer P w H s Q E) s
def BodyG (P : Program) (w : World) (K : PySem.W.Frag) (mg : Str → Option Value) (base : Heap) (k : Nat) (N : List Str) (q : Str) (st : Stmt) (sp : Sp) : Prop :=
  ∀ (f : Addr) (cdv : Value) (A : Around) (outer : List Env) (s : Shared) (H : Hp) (vs : List V) (Q : VK) (E : XK), Room k (A.deeper (envOfC q (defScope st) s.heap.objs.size f cdv)) → A.guards = some [] → sp vs H Q E →
    ∃ t, PSs (cxOf CX0 P w K mg base N q (defScope st) f cdv A outer s H E).nox (defBody st) t ∧ t { nx := fun _ H' => Q .non H', rt := Q } (start N vs) H
section
variable {P : Program} {w : World} {K : PySem.W.Frag} {mg : Str → Option Value} {base : Heap} {x q : Str} {st : Stmt} {N ps : List Str} {k : Nat} {sp : Sp}
theorem Fun.okG {f : Addr} {fd : FuncData} (F : Fun K x q st f fd) (S : FnScope N ps (defScope st)) (len : ∀ vs H Q E, sp vs H Q E → vs.length = ps.length) (hbody : BodyG P w K mg base k N q st sp) : FnG P w K mg base (k + 1) f fd ps sp := by
  obtain ⟨oc, od, kV, doc, pm, an, cdv, ct, osl, rfl, lk, hcd⟩ := F.ex
  refine ⟨len, fun A outer s H args us vs Q E hr hg e0 hb r hsp => ?_⟩
  have hl := len _ _ _ _ hsp
  have KY : K.In s.heap := e0.mod.kin.keeps fun b o e => (e0.bs b o e).1
  have lm : s.heap.NoLimit := e0.mod.nolimit.keeps fun b o e => (e0.bs b o e).1
  refine codeAny_call_function hr.depth (KY _ _ lk) rfl S.co S.gen rfl (PySem.W.codeRec_of KY hcd) (hb _ _ _ _ ?_)
  refine wpAny_newFunctionEnv_cells S.kind (fun ⟨n, v⟩ hy => ?_) fun env he s1 xx => ?_
  · rcases S.par n (List.of_mem_zip hy).1 with kk | kk
    · exact .inl kk
    · exact .inr ⟨kk, PySem.W.cellsFrom_some _ _ _ (.inl kk)⟩
  subst he
  refine ⟨lm.keeps xx.toInCall.keep, codeAny_func ?_⟩
  obtain ⟨t, ht, hq⟩ := hbody f cdv A outer s H vs Q E (hr.deeper _) hg hsp
  have I := inv_start (CX := CX0) (cd := cdv) (f := f) (qual := q) (E := E) S hr.hd e0 hl r xx
  refine wpAny_mono (ht.nox.run [] s1 (L2.start N vs) H _ I hq) (fun fl s' hs => ?_) fun e s' hs => hs
  cases fl with
  | ret u =>
    obtain ⟨v, σ', H', J, rv, z⟩ := hs
    exact ⟨v, H', J.os, J.bare, J.base, J.hok, rv, z⟩
  | next =>
    obtain ⟨σ', H', J, z⟩ := hs
    exact ⟨.non, H', J.os, J.bare, J.base, J.hok, rfl, z⟩
  | brk =>
    obtain ⟨_, _, _, z⟩ := hs
    exact False.elim z
  | cont =>
    obtain ⟨_, _, _, z⟩ := hs
    exact False.elim z
structure CallG (P : Program) (w : World) (K : PySem.W.Frag) (mg : Str → Option Value) (base : Heap) (k : Nat) (x : Str) (sp : Sp) : Prop where
  ex : ∃ f fd ps, FnG P w K mg base k f fd ps sp ∧ mg x = some (.ref f) ∧ PySem.W.keepIn K (.ref f) = true ∧ Binds K fd ps []
theorem DefAt.okG (D : DefAt K mg x st ps) (S : FnScope N ps (defScope st)) (len : ∀ vs H Q E, sp vs H Q E → vs.length = ps.length) (b : BodyG P w K mg base k N x st sp) : CallG P w K mg base (k + 1) x sp := by
  obtain ⟨f, fd, F, hm, hb⟩ := D.ex
  exact ⟨f, fd, ps, Fun.okG F S len b, hm, F.kp, hb⟩
end
section
variable {X : Cx} {k : Nat} {x : Str} {sp : Sp} {e : Expr} {es : List Expr} {t : TA} {p pos : Pos}
theorem pe_callG (G : CallG X.prog X.w X.K X.mg X.base k x sp) (hr : Room k X.A) (hg : X.A.guards = some []) (ha : PA X (e :: es) t) (hgl : Gl X x := by rfl) (hdb : (x == ("__debug__" : Str)) = false := by decide)
    (he : starEach (e :: es) X.env = (false, eval e X.env) :: starEach es X.env := by rfl) (hpl : (backTo pos (starEach es X.env)).any (·.1) = false := by rfl) : PE X (.Call (.Name x p) (e :: es) [] pos) (tCall sp [] E0 t) := by
  obtain ⟨f, fd, ps, F, hm, hk, hb⟩ := G.ex
  refine ⟨fun pins s σ H Q I h => ?_⟩
  refine wpAny_Call_Name_kw (ld_glob I hgl hm ?_ hdb)
  refine PySem.W.callWith_K (h₀ := X.base) I.ok.mod.kin hk (thn (ha.run pos pins s σ H _ I h) fun us s1 ⟨vs, H1, I1, r, z⟩ => ⟨I1.kIn, ?_⟩) he hpl
  have z : sp vs H1 Q E0 := by
    have z' : sp (vs ++ []) H1 Q E0 := z
    rw [List.append_nil] at z'
    exact z'
  have hl : us.length = ps.length := by rw [← r.length]; exact F.len _ _ _ _ z
  have b := hb s1 us I1.kIn (by rw [List.append_nil]; exact hl)
  rw [List.append_nil] at b
  refine wpAny_call (codeAny_mono (F.run X.A X.stack s1 H1 ⟨us, []⟩ us vs Q E0 hr hg I1.env0 b r z) fun rr s' hq => ?_)
  cases rr with
  | error e => exact hq.elim
  | ok fl =>
    cases fl with
    | ret u => exact I1.after hq
    | next => exact False.elim hq
    | brk => exact False.elim hq
    | cont => exact False.elim hq
def rRepr (K : PySem.W.Frag) : List V → Hp → VK → Prop := fun xs H Q => ∃ (a : Addr) (d : PyData), xs = [.ref a] ∧ Dp K H (.ref a) d ∧ d.showable = true ∧ d.hasDict = false ∧ d.depth ≤ 64 ∧ d.shown.length ≤ sizeLine ∧ Q (.str d.shown) H
theorem call_reprG {K : PySem.W.Frag} (hg : X.A.guards = some []) (hu : X.A.units + 66 < cLine) (hK : X.K = K := by rfl) : CallR X (.builtin "repr") (rRepr K) := by
  subst hK
  intro pins s σ H xs us Q I r h
  obtain ⟨a, d, rfl, hD, hs, hnd, hdp, hsz, q⟩ := h
  obtain ⟨u, rfl, rx⟩ := vals1 r
  obtain rfl : u = Value.ref a := rx
  obtain ⟨as, hR⟩ := Dp.reads I d (.ref a) (.ref a) hD rfl
  refine repr_of_reads' hR hs (fun z => by rw [hnd] at z; cases z) hg (by omega) (fun _ _ e => e) (fun h' u tk hk => ?_) hsz
  exact ⟨.str d.shown, H, I.kept (t' := tk) hk, ⟨u, rfl⟩, q⟩
end
section
variable {P : Program} {w : World} {K : PySem.W.Frag} {mg mb : Str → Option Value} {k : Nat} {fa a : Addr} {fd : FuncData} {x : Str} {sp : Sp} {s₁ : Shared} {vs : List Value} {ns : List Int}
theorem lawG_core {H : Hp} (KX : K.In s₁.heap) (hns : s₁.heap.Ns mainGlobals mg) (hb : s₁.heap.Ns builtinsNs mb) (hbb : ∀ x : Str, x ≠ "__name__" → mb x = bootBuiltins x) (hlim : s₁.heap.NoLimit) (hg : s₁.gens = #[])
    (ha : s₁.heap.get? a = some { cls := .type "list", data := .seq vs.toArray }) (hr : Room k callerA)
    (F : ∀ base : Heap, K.In base → base.Ns mainGlobals mg → FnG P w K mg base k fa fd [x] sp) (hbind : ∀ (s : Shared) (u : Value), BindsTo s fd ⟨[u], []⟩ [(x, u)])
    (hO : Only H) (hsp : sp [.ref a] H (fun v _ => v = .bl true) fun _ _ _ => False) (hok : HOk P w H s₁.heap) (hA : ∀ b u, H b = some u → b = a) (hK : ∀ u, H a = some u → K.lookup a = none) :
    codeAny (model P w) callerA (.call (.ref fa) ⟨[.ref a], []⟩) (fun r s' => r = .ok (.ret (.bool true)) ∧ OldK s₁.heap s'.heap ∧ s'.os = s₁.os ∧ AllBare s'.gens) s₁ := by
  have stays : ∀ {b : Addr} {o : Obj}, s₁.heap.get? b = some o → (b = a → H b = none) → (hidT s₁.heap H).get? b = some o := fun {b o} e z => hidT_get e (by
    cases c : H b with
    | none => rfl
    | some u =>
      have := z (hA b u c)
      rw [c] at this
      cases this)
  have names : ∀ {b : Addr} {m : Str → Option Value}, s₁.heap.Ns b m → (hidT s₁.heap H).Ns b m := by
    rintro b m ⟨o, es, ep, e, d, rest⟩
    refine ⟨o, es, ep, stays e (fun z => ?_), d, rest⟩
    subst z
    rw [ha] at e
    cases e
    cases (show Data.seq vs.toArray _ = Data.dict es ep from d)
  have kb : K.In (hidT s₁.heap H) := fun b o e => stays (KX b o e) fun z => by
    subst z
    cases c : H b with
    | none => rfl
    | some u =>
      rw [hK u c] at e
      cases e
  obtain ⟨mc, lim1, lim2⟩ := hlim
  have md : Mod K mg (hidT s₁.heap H) := ⟨kb, names hns, ⟨mb, names hb, hbb⟩, ⟨mc, names lim1, lim2⟩⟩
  have noF : ∀ b ∈ frs ([] : List Env), H b = none := fun b m => by
    have m : b ∈ ([] : List Addr) := m
    cases m
  have e0 : Env0 P w K mg (hidT s₁.heap H) callerA [] s₁ H := { frames := rfl, mod := md, bs := fun b o e => of_hidT e, bsz := Nat.le_of_eq (hidT_size _ _), funs := trivial, frf := noF, hok := hok, bare := .of_eq hg }
  have go := (F _ kb (names hns)).run callerA [] s₁ H ⟨[.ref a], []⟩ [.ref a] [.ref a] (fun v _ => v = .bl true) (fun _ _ _ => False) hr rfl e0 (hbind s₁ (.ref a)) (.cons rfl .nil) hsp
  refine codeAny_mono go fun r s' h => ?_
  match r, h with
  | .error e, h => exact h.elim
  | .ok .next, h => exact False.elim h
  | .ok .brk, h => exact False.elim h
  | .ok .cont, h => exact False.elim h
  | .ok (.ret u), h =>
    obtain ⟨v, H', os, bare, un, hok', rel, fin⟩ := h
    have fin : v = .bl true := fin
    subst fin
    obtain rfl : u = Value.bool true := rel
    refine ⟨rfl, OldK.of_keep fun b o e => ?_, os, bare⟩
    rcases hO b with z | ⟨ob, xs, z⟩
    · refine un.keep b o e z (fun m => ?_) (by simp)
      have m : b ∈ ([] : List Addr) := m
      cases m
    · have e1 := (hok b _ z).1
      have e2 := (hok' b _ (un.frzs b ob _ z)).1
      rw [e] at e1
      cases e1
      exact e2
theorem law_callG (KX : K.In s₁.heap) (hns : s₁.heap.Ns mainGlobals mg) (hb : s₁.heap.Ns builtinsNs mb) (hbb : ∀ x : Str, x ≠ "__name__" → mb x = bootBuiltins x) (hlim : s₁.heap.NoLimit) (hg : s₁.gens = #[])
    (ha : s₁.heap.get? a = some { cls := .type "list", data := .seq vs.toArray }) (hi : IntsAre vs ns) (hl : ns.length ≤ sizeLine) (hr : Room k callerA)
    (F : ∀ base : Heap, K.In base → base.Ns mainGlobals mg → FnG P w K mg base k fa fd [x] sp) (hbind : ∀ (s : Shared) (u : Value), BindsTo s fd ⟨[u], []⟩ [(x, u)])
    (hsp : ∀ H : Hp, Only H → SqL K H a (ns.map V.int) → sp [.ref a] H (fun v _ => v = .bl true) fun _ _ _ => False) :
    codeAny (model P w) callerA (.call (.ref fa) ⟨[.ref a], []⟩) (fun r s' => r = .ok (.ret (.bool true)) ∧ OldK s₁.heap s'.heap ∧ s'.os = s₁.os ∧ AllBare s'.gens) s₁ := by
  have rel := vals_ints hi
  have hlv : vs.length ≤ sizeLine := by
    have := hi.length
    omega
  cases c : K.lookup a with
  | some o =>
    have e := KX a o c
    rw [ha] at e
    cases e
    have O : Only (fun _ => none) := fun _ => .inl rfl
    have sq : SqL K (fun _ => none) a (ns.map V.int) := .inr ⟨_, vs.toArray, _, c, rfl, rfl, rfl, by rw [List.size_toArray]; exact hlv, by simpa using rel⟩
    exact lawG_core (H := fun _ => none) KX hns hb hbb hlim hg ha hr F hbind O (hsp _ O sq) (fun b u z => by cases (show (none : Option HO) = some u from z)) (fun b u z => by cases (show (none : Option HO) = some u from z)) fun u z => by cases (show (none : Option HO) = some u from z)
  | none =>
    generalize ho : ({ cls := .type "list", data := .seq vs.toArray } : Obj) = ob at ha
    have at_ : ∀ {b : Addr} {u : HO}, (if b = a then some (HO.frz ob (.lst (ns.map V.int))) else none) = some u → b = a ∧ u = .frz ob (.lst (ns.map V.int)) := by
      intro b u z
      split at z
      · rename_i hba
        cases z
        exact ⟨hba, rfl⟩
      · cases z
    have O : Only (fun b => if b = a then some (HO.frz ob (.lst (ns.map V.int))) else none) := fun b => by
      by_cases hba : b = a
      · exact .inr ⟨_, _, if_pos hba⟩
      · exact .inl (if_neg hba)
    have sq : SqL K (fun b => if b = a then some (HO.frz ob (.lst (ns.map V.int))) else none) a (ns.map V.int) := .inl (.inr ⟨ob, if_pos rfl⟩)
    refine lawG_core (H := fun b => if b = a then some (HO.frz ob (.lst (ns.map V.int))) else none) KX hns hb hbb hlim hg (by rw [ho]; exact ha) hr F hbind O (hsp _ O sq) (fun b u z => ?_) (fun b u z => (at_ z).1) fun _ _ => c
    obtain ⟨hba, rfl⟩ := at_ z
    subst hba
    subst ho
    exact ⟨ha, by rw [List.length_map]; exact hl, vs, _, rel, ha⟩
end
theorem u66 {k : Nat} {A : Around} (r : Room k A) : A.units + 66 < cLine := by have := r.un; omega
theorem walk_ofG {l : PySem.W.OpenLaw} {n k : Nat} {q : Program} {loose : List Str} {XP : (Str → Option Value) → Heap → Prop} {YP : World → Heap → Prop} {d : DefRec} {K : Params → PySem.W.Frag} {sp : World → Sp} {x : Str}
    (hn : l.most = some n) (hn2 : n ≤ sizeLine) (hdf : d.params.defaults = []) (hr : Room k callerA) (hY : ∀ (w : World) (h : Heap), YP w h → (K w.params).In h)
    (F : ∀ (w : World) (mg : Str → Option Value) (fa : Addr) (h : Heap), (K w.params).In h → h.Ns mainGlobals mg → mg d.name = some (.ref fa) →
      ∃ fd : FuncData, (∀ (s : Shared) (u : Value), BindsTo s fd ⟨[u], []⟩ [(x, u)]) ∧ ∀ base : Heap, (K w.params).In base → base.Ns mainGlobals mg → FnG l.prog w (K w.params) mg base k fa fd [x] (sp w))
    (hsp : ∀ (w : World) (H : Hp) (a : Addr) (ns : List Int), ns.length ≤ n → Only H → SqL (K w.params) H a (ns.map V.int) → sp w [.ref a] H (fun v _ => v = .bl true) fun _ _ _ => False) :
    PySem.W.WalkO q loose XP YP l.row.toRowW d [] (fun f vs => PySem.call f vs) := by
  refine Att.attach_call hn hdf fun w s₀ s₁ mg mb fa o pm cd doc a vs ns G Y ho hd hcd hmg hobj hints hlen hg => ?_
  have KX := hY w _ Y
  obtain ⟨fd, hb, hF⟩ := F w mg fa _ KX G.T.g hmg
  exact law_callG KX G.T.g G.T.b G.T.builtins G.T.nolimit hg hobj hints (Nat.le_trans hlen hn2) hr hF hb fun H hO hS => hsp w H a ns hlen hO hS
end My
namespace My
open PySem PySem.Spec PySem.Calls PyProof.Rows L2
def rShow (K : PySem.W.Frag) : List V → Hp → VK → Prop := fun xs H Q => ∃ (v : V) (d : PyData), xs = [v] ∧ Dp K H v d ∧ d.showable = true ∧ d.hasDict = false ∧ d.depth ≤ 64 ∧ d.shown.length ≤ sizeLine ∧ Q (.str d.shown) H
theorem call_showG {X : Cx} {K : PySem.W.Frag} (hg : X.A.guards = some []) (hu : X.A.units + 66 < cLine) (hK : X.K = K := by rfl) : CallR X (.builtin "repr") (rShow K) := by
  intro pins s σ H xs us Q I r h
  obtain ⟨v, d, rfl, hD, hs, hnd, hdp, hsz, q⟩ := h
  cases hD with
  | non =>
    obtain ⟨u, rfl, rx⟩ := vals1 r
    cases (show u = Value.none from rx)
    exact P.repr_of_none ⟨.str (PyData.shown .none), H, I.tok _, ⟨_, rfl⟩, q⟩
  | bl b =>
    obtain ⟨u, rfl, rx⟩ := vals1 r
    cases (show u = Value.bool b from rx)
    refine P.repr_of_bool ⟨.str (PyData.shown (.bool b)), H, I.tok _, ⟨s.toks, ?_⟩, q⟩
    cases b <;> rfl
  | int i =>
    obtain ⟨u, rfl, rx⟩ := vals1 r
    obtain ⟨t, rfl⟩ := (show ∃ t, u = Value.int i t from rx)
    exact P.repr_of_int (by simpa [PyData.showable] using hs) ⟨.str (PyData.shown (.int i)), H, I.tok _, ⟨_, rfl⟩, q⟩
  | str x =>
    obtain ⟨u, rfl, rx⟩ := vals1 r
    obtain ⟨t, rfl⟩ := (show ∃ t, u = Value.str x t from rx)
    exact P.repr_of_str ⟨.str (PyData.shown (.str x)), H, I.tok _, ⟨_, rfl⟩, q⟩ hsz
  | tup h1 h2 => exact call_reprG hg hu hK pins s σ H _ us Q I r ⟨_, _, rfl, .tup h1 h2, hs, hnd, hdp, hsz, q⟩
  | lst h1 h2 => exact call_reprG hg hu hK pins s σ H _ us Q I r ⟨_, _, rfl, .lst h1 h2, hs, hnd, hdp, hsz, q⟩
mutual
def shw : PyData → Nat
  | .none => 5
  | .bool _ => 5
  | .int _ => 2000
  | .str x => 10 * x.length + 2
  | .list xs => 4 + shwAll xs
  | .tuple xs => 4 + shwAll xs
  | .dict _ => 0
def shwAll : List PyData → Nat
  | [] => 0
  | x :: r => shw x + 2 + shwAll r
end
theorem textFrom_le : ∀ (ts : List Str) (k : Nat) (acc : Str), (textFrom k acc ts).length ≤ acc.length + (ts.map fun t => t.length + 2).sum
  | [], k, acc => by show acc.length ≤ _; omega
  | t :: r, k, acc => by
    have ih := textFrom_le r (k + 1) (acc ++ (if k > 0 then ", " else "" : String) ++ t)
    have hs : (Str.ofString (if k > 0 then ", " else "")).length ≤ 2 := by
      split
      · decide +kernel
      · decide +kernel
    have hl : (acc ++ Str.ofString (if k > 0 then ", " else "") ++ t).length ≤ acc.length + 2 + t.length := by
      rw [cd_len, cd_app, cd_app, List.length_append, List.length_append, ← cd_len, ← cd_len, ← cd_len]
      omega
    show (textFrom (k + 1) (acc ++ Str.ofString (if k > 0 then ", " else "") ++ t) r).length ≤ _
    have ih : (textFrom (k + 1) (acc ++ Str.ofString (if k > 0 then ", " else "") ++ t) r).length ≤ (acc ++ Str.ofString (if k > 0 then ", " else "") ++ t).length + (r.map fun t => t.length + 2).sum := ih
    rw [List.map_cons, List.sum_cons]
    omega
theorem piled_le : ∀ ts : List Str, (Str.join ", " ts).length ≤ (ts.map fun t => t.length + 2).sum
  | [] => by
    show (Str.join ", " []).length ≤ 0
    decide +kernel
  | x :: r => by
    have h := join_length_add (x :: r) (by simp)
    have e : ∀ ts : List Str, piled ts = (ts.map fun t => t.length + 2).sum := by
      intro ts
      induction ts with
      | nil => rfl
      | cons y t ih =>
        rw [List.map_cons, List.sum_cons, ← ih]
        simp [piled]
    rw [← e]
    omega
theorem len_app (a b : Str) : (a ++ b).length = a.length + b.length := by
  rw [cd_len, cd_app, List.length_append, ← cd_len, ← cd_len]
mutual
theorem shown_le : ∀ d : PyData, d.canLay0 = true → d.showable = true → d.shown.length ≤ shw d
  | .none, _, _ => by
    show (Str.ofString "None").length ≤ 5
    decide +kernel
  | .bool b, _, _ => by cases b <;> decide +kernel
  | .int i, _, h => by
    have h : i.natAbs.log2 < 1920 := by simpa [PyData.showable] using h
    have e := int_text_length_le (k := 1920) (by decide) h
    show (Str.ofString (toString i)).length ≤ 2000
    rw [PySem.ofString_length]
    omega
  | .str x, h, _ => by
    show (reprText x).length ≤ 10 * x.length + 2
    refine StrLaws.reprText_len x fun c hc => ?_
    simp only [PyData.canLay0] at h
    have h : x.cps.all (· < 0x110000) = true := h
    rw [← Array.all_toList, List.all_eq_true] at h
    have := of_decide_eq_true (h c hc)
    omega
  | .list xs, h, k => by
    simp only [PyData.canLay0] at h
    simp only [PyData.showable] at k
    have := shownAll_le xs h k
    show (listText (PyData.shownAll xs)).length ≤ 4 + shwAll xs
    unfold listText
    rw [len_app]
    have h1 := textFrom_le (PyData.shownAll xs) 0 "["
    have h2 : (Str.ofString "[").length = 1 := by decide +kernel
    have h3 : (Str.ofString "]").length = 1 := by decide +kernel
    omega
  | .tuple xs, h, k => by
    simp only [PyData.canLay0] at h
    simp only [PyData.showable] at k
    have := shownAll_le xs h k
    show (tupleText (PyData.shownAll xs)).length ≤ 4 + shwAll xs
    unfold tupleText
    rw [len_app, len_app]
    have h1 := piled_le (PyData.shownAll xs)
    have h2 : (Str.ofString "(").length = 1 := by decide +kernel
    have h3 : ∀ n : Nat, (Str.ofString (if n == 1 then ",)" else ")")).length ≤ 2 := fun n => by
      split <;> decide +kernel
    have h4 := h3 (PyData.shownAll xs).length
    omega
  | .dict _, h, _ => by simp [PyData.canLay0] at h
theorem shownAll_le : ∀ ds : List PyData, PyData.canLayAll0 ds = true → PyData.showableAll ds = true → ((PyData.shownAll ds).map fun t => t.length + 2).sum ≤ shwAll ds
  | [], _, _ => Nat.le_refl _
  | d :: r, h, k => by
    simp only [PyData.canLayAll0, Bool.and_eq_true] at h
    simp only [PyData.showableAll, Bool.and_eq_true] at k
    have h1 := shown_le d h.1 k.1
    have h2 := shownAll_le r h.2 k.2
    show ((PyData.shown d :: PyData.shownAll r).map fun t => t.length + 2).sum ≤ shw d + 2 + shwAll r
    rw [List.map_cons, List.sum_cons]
    omega
end
structure Shw (n m : Nat) (d : PyData) : Prop where
  fine : Fine n d
  show_ : d.showable = true
  size : shw d ≤ m
theorem Shw.up {n m a b : Nat} {d : PyData} (h : Shw n m d) (h1 : n ≤ a) (h2 : m ≤ b) : Shw a b d := ⟨h.fine.up h1, h.show_, Nat.le_trans h.size h2⟩
theorem Shw.rep {n m : Nat} {d : PyData} (h : Shw n m d) (hn : n ≤ 64) (hm : m ≤ 100000) : d.showable = true ∧ d.hasDict = false ∧ d.depth ≤ 64 ∧ d.shown.length ≤ sizeLine :=
  ⟨h.show_, PyData.hasDict_of_canLay d h.fine.1, Nat.le_trans h.fine.2 hn, sizeL (Nat.le_trans (shown_le d h.fine.1 h.show_) (Nat.le_trans h.size hm))⟩
theorem Shw.none : Shw 1 5 .none := ⟨Fine.none, rfl, Nat.le_refl _⟩
theorem Shw.bool (b : Bool) : Shw 1 5 (.bool b) := ⟨Fine.bool b, rfl, Nat.le_refl _⟩
theorem Shw.int {i : Int} (h : i.natAbs.log2 < 1920) : Shw 1 2000 (.int i) := ⟨Fine.int i, by simpa [PyData.showable] using h, Nat.le_refl _⟩
theorem Shw.str {x : Str} (h : Fine 1 (.str x)) {m : Nat} (l : x.length ≤ m) : Shw 1 (10 * m + 2) (.str x) := ⟨h, rfl, by show 10 * x.length + 2 ≤ _; omega⟩
theorem shwAll_le {m : Nat} : ∀ {ds : List PyData}, (∀ d ∈ ds, shw d ≤ m) → shwAll ds ≤ ds.length * (m + 2)
  | [], _ => Nat.zero_le _
  | d :: r, h => by
    have h1 := h d List.mem_cons_self
    have h2 := shwAll_le (ds := r) fun x hx => h x (List.mem_cons_of_mem _ hx)
    show shw d + 2 + shwAll r ≤ (r.length + 1) * (m + 2)
    rw [Nat.add_mul]
    omega
theorem showAll_of : ∀ {ds : List PyData}, (∀ d ∈ ds, d.showable = true) → PyData.showableAll ds = true
  | [], _ => rfl
  | d :: r, h => by
    simp only [PyData.showableAll, Bool.and_eq_true]
    exact ⟨h d List.mem_cons_self, showAll_of fun x hx => h x (List.mem_cons_of_mem _ hx)⟩
theorem Shw.tup {n m k : Nat} {ds : List PyData} (h : ∀ d ∈ ds, Shw n m d) (l : ds.length ≤ k) : Shw (n + 1) (4 + k * (m + 2)) (.tuple ds) := by
  refine ⟨Fine.tup fun d hd => (h d hd).fine, ?_, ?_⟩
  · simp only [PyData.showable]
    exact showAll_of fun d hd => (h d hd).show_
  · have := shwAll_le fun d hd => (h d hd).size
    show 4 + shwAll ds ≤ _
    have := Nat.mul_le_mul_right (m + 2) l
    omega
theorem Shw.lst {n m k : Nat} {ds : List PyData} (h : ∀ d ∈ ds, Shw n m d) (l : ds.length ≤ k) : Shw (n + 1) (4 + k * (m + 2)) (.list ds) := by
  refine ⟨Fine.lst fun d hd => (h d hd).fine, ?_, ?_⟩
  · simp only [PyData.showable]
    exact showAll_of fun d hd => (h d hd).show_
  · have := shwAll_le fun d hd => (h d hd).size
    show 4 + shwAll ds ≤ _
    have := Nat.mul_le_mul_right (m + 2) l
    omega
def strOf : PyData → Option Str
  | .str x => some x
  | _ => none
theorem strOf_some {d : PyData} {x : Str} (h : strOf d = some x) : d = .str x := by
  cases d with
  | str y => cases h; rfl
  | none => cases h
  | bool _ => cases h
  | int _ => cases h
  | list _ => cases h
  | tuple _ => cases h
  | dict _ => cases h
theorem eqv_strOf (x : Str) (d : PyData) : PyData.eqv (.str x) d = decide (strOf d = some x) := by
  cases d with
  | str y =>
    show PyData.eqv (.str x) (.str y) = _
    by_cases e : x = y
    · subst e; simp [PyData.eqv, strOf]
    · have e' : ¬ y = x := fun q => e q.symm
      simp [PyData.eqv, strOf, e, e']
  | none => simp [PyData.eqv, strOf]
  | bool _ => simp [PyData.eqv, strOf]
  | int _ => simp [PyData.eqv, strOf]
  | list _ => simp [PyData.eqv, strOf]
  | tuple _ => simp [PyData.eqv, strOf]
  | dict _ => simp [PyData.eqv, strOf]
end My
namespace My
open PySem PySem.Spec PyProof.Rows L2
def intOf : PyData → Option Int
  | .int i => some i
  | _ => none
theorem intOf_some {d : PyData} {i : Int} (h : intOf d = some i) : d = .int i := by
  cases d with
  | int y => cases h; rfl
  | none => cases h
  | bool _ => cases h
  | str _ => cases h
  | list _ => cases h
  | tuple _ => cases h
  | dict _ => cases h
def keyB (d : PyData) : Bool := match intOf d with
  | some i => decide (1 ≤ i)
  | none => false
def labB (d : PyData) : Bool := match intOf d with
  | some i => decide (0 ≤ i ∧ i < 1000000000000000000000000000000)
  | none => false
def cellB : PyData → Bool
  | .none => true
  | d => keyB d
def rowB (w : Nat) : PyData → Bool
  | .tuple [l, .tuple cs] => labB l && (decide (cs.length = w) && cs.all cellB)
  | _ => false
theorem keyB_int (i : Int) : keyB (.int i) = decide (1 ≤ i) := rfl
theorem labB_int (i : Int) : labB (.int i) = decide (0 ≤ i ∧ i < 1000000000000000000000000000000) := rfl
theorem keyB_inv {d : PyData} (h : keyB d = true) : ∃ i, d = .int i ∧ 1 ≤ i := by
  unfold keyB at h
  split at h
  · rename_i i e
    exact ⟨i, intOf_some e, of_decide_eq_true h⟩
  · cases h
theorem labB_inv {d : PyData} (h : labB d = true) : ∃ i, d = .int i ∧ 0 ≤ i ∧ i < 1000000000000000000000000000000 := by
  unfold labB at h
  split at h
  · rename_i i e
    exact ⟨i, intOf_some e, of_decide_eq_true h⟩
  · cases h
theorem cellB_inv {d : PyData} (h : cellB d = true) : ∃ c : Option Int, d = cellD c ∧ ∀ x, c = some x → 1 ≤ x := by
  unfold cellB at h
  split at h
  · exact ⟨none, rfl, fun x e => by cases e⟩
  · obtain ⟨i, rfl, hi⟩ := keyB_inv h
    exact ⟨some i, rfl, fun x e => by cases e; exact hi⟩
theorem cells_inv : ∀ {cs : List PyData}, cs.all cellB = true → ∃ xs : List (Option Int), cs = xs.map cellD ∧ ∀ x, some x ∈ xs → 1 ≤ x
  | [], _ => ⟨[], rfl, fun x h => by cases h⟩
  | d :: r, h => by
    rw [List.all_cons, Bool.and_eq_true] at h
    obtain ⟨c, rfl, hc⟩ := cellB_inv h.1
    obtain ⟨xs, rfl, hx⟩ := cells_inv h.2
    refine ⟨c :: xs, rfl, fun x hm => ?_⟩
    rcases List.mem_cons.mp hm with e | hm
    · exact hc x e.symm
    · exact hx x hm
theorem rowB_inv {w : Nat} {d : PyData} (h : rowB w d = true) : ∃ lab cs, d = rowD lab cs ∧ GoodRow w lab cs := by
  unfold rowB at h
  split at h
  · rename_i l cs
    simp only [Bool.and_eq_true, decide_eq_true_eq] at h
    obtain ⟨lab, rfl, h0, h1⟩ := labB_inv h.1
    obtain ⟨xs, rfl, hx⟩ := cells_inv h.2.2
    rw [List.length_map] at h
    exact ⟨lab, xs, rfl, h0, h1, h.2.1, hx⟩
  · cases h
theorem cells_ok : ∀ {xs : List (Option Int)}, (∀ x, some x ∈ xs → 1 ≤ x) → (xs.map cellD).all cellB = true
  | [], _ => rfl
  | c :: r, h => by
    rw [List.map_cons, List.all_cons, cells_ok fun x hx => h x (List.mem_cons_of_mem _ hx), Bool.and_true]
    cases c with
    | none => rfl
    | some i => exact decide_eq_true (h i List.mem_cons_self)
theorem rowB_row {w : Nat} {lab : Int} {cs : List (Option Int)} (g : GoodRow w lab cs) : rowB w (rowD lab cs) = true := by
  show (labB (.int lab) && (decide ((cs.map cellD).length = w) && (cs.map cellD).all cellB)) = true
  rw [cells_ok g.key, labB_int, decide_eq_true ⟨g.lo, g.hi⟩, List.length_map, decide_eq_true g.len]
  rfl
theorem rowB_tup {w : Nat} {d : PyData} (h : ∀ ds, d ≠ .tuple ds) : rowB w d = false := by
  unfold rowB
  split
  · exact absurd rfl (h _)
  · rfl
theorem rowB_len {w : Nat} {ds : List PyData} (h : ds.length ≠ 2) : rowB w (.tuple ds) = false := by
  unfold rowB
  split
  · rename_i e
    cases e
    exact absurd rfl h
  · rfl
theorem rowB_lab {w : Nat} {l c : PyData} (h : labB l = false) : rowB w (.tuple [l, c]) = false := by
  unfold rowB
  split
  · rename_i e
    cases e
    rw [h]
    rfl
  · rfl
theorem rowB_notT {w : Nat} {l c : PyData} (h : ∀ cs, c ≠ .tuple cs) : rowB w (.tuple [l, c]) = false := by
  unfold rowB
  split
  · rename_i e
    cases e
    exact absurd rfl (h _)
  · rfl
theorem rowB_width {w : Nat} {l : PyData} {cs : List PyData} (h : cs.length ≠ w) : rowB w (.tuple [l, .tuple cs]) = false := by
  show (labB l && (decide (cs.length = w) && cs.all cellB)) = false
  rw [decide_eq_false h]
  simp
theorem rowB_cell {w : Nat} {l d : PyData} {cs : List PyData} (h : d ∈ cs) (k : cellB d = false) : rowB w (.tuple [l, .tuple cs]) = false := by
  show (labB l && (decide (cs.length = w) && cs.all cellB)) = false
  have : cs.all cellB = false := by
    cases e : cs.all cellB with
    | false => rfl
    | true => rw [List.all_eq_true.mp e d h] at k; cases k
  rw [this]
  simp
theorem Th.cell {H : Hp} {v : V} {c : Option Int} (h : Th H v (cellD c)) : v = cellV c := by
  cases c with
  | none => cases h; rfl
  | some i => cases h; rfl
theorem ThAll.cells {H : Hp} : ∀ {vs : List V} {cs : List (Option Int)}, ThAll H vs (cs.map cellD) → vs = cs.map cellV
  | _, [], h => by cases h; rfl
  | _, c :: r, h => by
    cases h with
    | cons h1 h2 => rw [List.map_cons, h1.cell, ThAll.cells h2]
theorem Th.row {H : Hp} {v : V} {lab : Int} {cs : List (Option Int)} (h : Th H v (rowD lab cs)) : Td H v (rowD lab cs) := by
  obtain ⟨a, xs, rfl, ha, hx⟩ := h.tup_inv
  obtain ⟨x, y, rfl, h0, h1⟩ := hx.two
  obtain ⟨b, ys, rfl, hb, hy⟩ := h1.tup_inv
  cases h0
  rw [hy.cells] at hb
  exact .tup ha (.cons (.int _) (.cons (.tup hb (cells_td cs)) .nil))
theorem Th.whole {H : Hp} {K : PySem.W.Frag} {v : V} {d : PyData} (h : Th H v d) : (∃ i, v = .int i ∧ d = .int i) ∨ (intOf d = none ∧ ((∃ b, v = .bl b) ∨ ∃ t, TyX K H v t ∧ PySem.W.kitOne K t (.type "int") = some false)) := by
  cases h with
  | non => exact .inr ⟨rfl, .inr ⟨_, .base .non, kit_ty (by decide +kernel)⟩⟩
  | bl b => exact .inr ⟨rfl, .inl ⟨b, rfl⟩⟩
  | int i => exact .inl ⟨i, rfl, rfl⟩
  | str x => exact .inr ⟨rfl, .inr ⟨_, .base (.str x), kit_ty (by decide +kernel)⟩⟩
  | tup h r => exact .inr ⟨rfl, .inr ⟨_, .base (.tup h), kit_ty (by decide +kernel)⟩⟩
  | lst h r => exact .inr ⟨rfl, .inr ⟨_, .base (.lst h), kit_ty (by decide +kernel)⟩⟩
def TabD (pl : Plan) (ct : List (List (Key × V))) (d : PyData) (kvs : List (Key × V)) : Prop := (∃ (i : Nat) (e : Ent), pl[i]? = some e ∧ strOf d = some e.1 ∧ ct[i]? = some kvs) ∨ ((∀ e ∈ pl, strOf d ≠ some e.1) ∧ kvs = [])
def hasD (kvs : List (Key × V)) (d : PyData) : Bool := match intOf d with
  | some i => (valV kvs (Sum.inl i)).isSome
  | none => false
theorem hasD_int (kvs : List (Key × V)) (i : Int) : hasD kvs (.int i) = (valV kvs (Sum.inl i)).isSome := rfl
theorem hasD_nil (d : PyData) : hasD [] d = false := by
  unfold hasD
  split <;> rfl
theorem hasD_inv {kvs : List (Key × V)} {d : PyData} (h : hasD kvs d = true) : ∃ i v, d = .int i ∧ valV kvs (Sum.inl i) = some v := by
  unfold hasD at h
  split at h
  · rename_i i e
    obtain ⟨v, hv⟩ := Option.isSome_iff_exists.mp h
    exact ⟨i, v, intOf_some e, hv⟩
  · cases h
theorem TabD.tab (pl : Plan) {ct : List (List (Key × V))} (hc : ct.length = pl.length) (d : PyData) : ∃ kvs, TabD pl ct d kvs := by
  by_cases h : ∃ e ∈ pl, strOf d = some e.1
  · obtain ⟨e, he, hd⟩ := h
    obtain ⟨i, hi, ei⟩ := List.getElem_of_mem he
    exact ⟨_, .inl ⟨i, e, by rw [List.getElem?_eq_getElem hi, ei], hd, List.getElem?_eq_getElem (by omega : i < ct.length)⟩⟩
  · exact ⟨[], .inr ⟨fun e he hd => h ⟨e, he, hd⟩, rfl⟩⟩
def Rs (H : Hp) (E : XK) (C : Addr) (fs : List (Str × V)) : Prop := ∀ H' x, Same H H' → H x = none → H' x = some (.xd fs) → E (.ref C) (some x) H'
theorem log2_small {n : Nat} (h : n < 2 ^ 200) : n.log2 < 1920 := by
  rcases Nat.eq_zero_or_pos n with rfl | p
  · decide
  · exact Nat.lt_of_lt_of_le ((Nat.log2_lt (by omega)).mpr h) (by decide)
theorem shw_int {i : Int} (h1 : -10000000000000000000000000000000000000000 < i) (h2 : i < 10000000000000000000000000000000000000000) : Shw 1 2000 (.int i) := by
  refine Shw.int (log2_small ?_)
  have : (10000000000000000000000000000000000000000 : Nat) < 2 ^ 200 := by decide
  omega
theorem fine_of (s : String) : Fine 1 (.str (Str.ofString s)) := Fine.str fun c hc => by
  have e : cd (Str.ofString s) = s.toList.map Char.toNat := by
    rw [Str.ofString_eq_toList]
  rw [e] at hc
  obtain ⟨x, _, rfl⟩ := List.mem_map.mp hc
  have h := x.valid
  show x.val.toNat < 0x110000
  rcases h with h | h
  · omega
  · exact h.2
theorem shw_of {s : String} {m : Nat} (h : s.length ≤ m) : Shw 1 (10 * m + 2) (.str (Str.ofString s)) := Shw.str (fine_of s) (by rw [PySem.ofString_length]; exact h)
def Sml (cs : List (Option Int)) : Prop := ∀ x, some x ∈ cs → x < 1000000000000000000000000000000
theorem cell_shw {cs : List (Option Int)} {w : Nat} {lab : Int} (g : GoodRow w lab cs) (s : Sml cs) : ∀ d ∈ cs.map cellD, Shw 1 2000 d := fun d hd => by
  obtain ⟨c, hc, rfl⟩ := List.mem_map.mp hd
  cases c with
  | none => exact Shw.none.up (by decide) (by decide)
  | some x =>
    have h1 := g.key x hc
    have h2 := s x hc
    exact shw_int (by omega) (by omega)
theorem cells_shw {cs : List (Option Int)} {w : Nat} {lab : Int} (g : GoodRow w lab cs) (s : Sml cs) (hw : w ≤ 3) : Shw 2 6010 (.tuple (cs.map cellD)) :=
  (Shw.tup (k := 3) (cell_shw g s) (by rw [List.length_map, g.len]; exact hw)).up (by decide) (by decide)
theorem row_shw {cs : List (Option Int)} {w : Nat} {lab : Int} (g : GoodRow w lab cs) (s : Sml cs) (hw : w ≤ 3) : Shw 3 13000 (rowD lab cs) := (Shw.tup (n := 2) (m := 6010) (k := 2) (fun d hd => by
  rcases List.mem_cons.mp hd with rfl | hd
  · have := g.lo
    have := g.hi
    exact (shw_int (by omega) (by omega)).up (by decide) (by decide)
  · rw [List.mem_singleton.mp hd]
    exact cells_shw g s hw) (Nat.le_refl _)).up (by decide) (by decide)
theorem Shw.l1 {n m : Nat} {a : PyData} (h : Shw n m a) : Shw (n + 1) (m + 6) (.list [a]) := (Shw.lst (k := 1) (fun d hd => by rw [List.mem_singleton.mp hd]; exact h) (Nat.le_refl _)).up (Nat.le_refl _) (by omega)
theorem Shw.l2 {n m : Nat} {a b : PyData} (h : Shw n m a) (k : Shw n m b) : Shw (n + 1) (2 * m + 8) (.list [a, b]) := (Shw.lst (k := 2) (fun d hd => by
  rcases List.mem_cons.mp hd with rfl | hd
  · exact h
  · rw [List.mem_singleton.mp hd]; exact k) (Nat.le_refl _)).up (Nat.le_refl _) (by omega)
theorem Shw.l3 {n m : Nat} {a b c : PyData} (h : Shw n m a) (k : Shw n m b) (l : Shw n m c) : Shw (n + 1) (3 * m + 10) (.list [a, b, c]) := (Shw.lst (k := 3) (fun d hd => by
  rcases List.mem_cons.mp hd with rfl | hd
  · exact h
  · rcases List.mem_cons.mp hd with rfl | hd
    · exact k
    · rw [List.mem_singleton.mp hd]; exact l) (Nat.le_refl _)).up (Nat.le_refl _) (by omega)
theorem Shw.t1 {n m : Nat} {a : PyData} (h : Shw n m a) : Shw (n + 1) (m + 6) (.tuple [a]) := (Shw.tup (k := 1) (fun d hd => by rw [List.mem_singleton.mp hd]; exact h) (Nat.le_refl _)).up (Nat.le_refl _) (by omega)
theorem Shw.t2 {n m : Nat} {a b : PyData} (h : Shw n m a) (k : Shw n m b) : Shw (n + 1) (2 * m + 8) (.tuple [a, b]) := (Shw.tup (k := 2) (fun d hd => by
  rcases List.mem_cons.mp hd with rfl | hd
  · exact h
  · rw [List.mem_singleton.mp hd]; exact k) (Nat.le_refl _)).up (Nat.le_refl _) (by omega)
theorem Shw.t3 {n m : Nat} {a b c : PyData} (h : Shw n m a) (k : Shw n m b) (l : Shw n m c) : Shw (n + 1) (3 * m + 10) (.tuple [a, b, c]) := (Shw.tup (k := 3) (fun d hd => by
  rcases List.mem_cons.mp hd with rfl | hd
  · exact h
  · rcases List.mem_cons.mp hd with rfl | hd
    · exact k
    · rw [List.mem_singleton.mp hd]; exact l) (Nat.le_refl _)).up (Nat.le_refl _) (by omega)
theorem Shw.lit {s : String} (h : s.length ≤ 20) : Shw 1 2000 (.str (Str.ofString s)) := (shw_of h).up (by decide) (by decide)
section
variable {H0 G : Hp} {u : Addr} {o : HO} {v : V} {d : PyData} {xs : List V} {ds : List PyData}
theorem Th.go (h : Th (nw H0 G) v d) (hu : G u = none) : Th (nw H0 (L2.upd G u o)) v d := h.same (nw_go (Same.upd (Same.refl G) hu))
theorem ThAll.go (h : ThAll (nw H0 G) xs ds) (hu : G u = none) : ThAll (nw H0 (L2.upd G u o)) xs ds := h.same (nw_go (Same.upd (Same.refl G) hu))
theorem mkT (hu : G u = none) (h0 : H0 u = none) (h : ThAll (nw H0 G) xs ds) : Th (nw H0 (L2.upd G u (.tup xs))) (.ref u) (.tuple ds) := .tup (nw_free L2.upd_same h0) (h.go hu)
theorem mkL (hu : G u = none) (h0 : H0 u = none) (h : ThAll (nw H0 G) xs ds) : Th (nw H0 (L2.upd G u (.lst xs))) (.ref u) (.list ds) := .lst (nw_free L2.upd_same h0) (h.go hu)
end
theorem Td.nwT {H0 G : Hp} {a : Addr} {n : Nat} {v : V} {d : PyData} (h : Td G v d) (S : StAt G a n) (e : Fr1 a H0 G) : Th (nw H0 G) v d := h.new S e
end My
namespace My
open PySem PySem.Spec PyProof.Rows L2
def Eq0 (K : PySem.W.Frag) (H : Hp) (x y : V) (b : Bool) : Prop := ∃ d e, Dp K H x d ∧ Dp K H y e ∧ SeqAt.shaped d = true ∧ SeqAt.shaped e = true ∧ b = PyData.eqv d e
inductive HitsV (F : V → V → Bool → Prop) (ls : List (Key × V)) : List (Key × V) → Bool → Prop
  | nil : HitsV F ls [] true
  | miss {k : Key} {v : V} {r : List (Key × V)} : valV ls k = none → HitsV F ls ((k, v) :: r) false
  | hit {k : Key} {v u : V} {r : List (Key × V)} {e b : Bool} : valV ls k = some u → F v u e → HitsV F ls r b → HitsV F ls ((k, v) :: r) (e && b)
def EqK (F : V → V → Bool → Prop) (H : Hp) (x y : V) (b : Bool) : Prop := ∃ a c ks ls r, x = .ref a ∧ y = .ref c ∧ H a = some (.dK ks) ∧ H c = some (.dK ls) ∧ (ks.length = ls.length → HitsV F ls ks r) ∧ b = (ks.length == ls.length && r)
def Eq1 (K : PySem.W.Frag) (H : Hp) (x y : V) (b : Bool) : Prop := Eq0 K H x y b ∨ (∃ a, x = .ref a ∧ y = .ref a ∧ b = true) ∨ (x ≠ y ∧ EqK (Eq0 K H) H x y b)
section
variable {X : Cx} {pins : List (Addr × Obj)} {σ : L2.St} {H : Hp} {s : Shared}
theorem eq0_run (I : Inv X pins σ H s) {A : Around} (hu : A.units + 64 < cLine) {x y : V} {v u : Value} {b : Bool} (h : Eq0 X.K H x y b) (rx : RelV x v) (ry : RelV y u) : SeqAt.EqP X.prog X.w A s v u b := by
  obtain ⟨d, e, hd, he, sd, se, rfl⟩ := h
  obtain ⟨as, r1⟩ := Dp.reads I d x v hd rx
  obtain ⟨bs, r2⟩ := Dp.reads I e y u he ry
  exact (SeqAt.eqAt_reads d e A s v u as bs r1 r2 (SeqAt.canLay_of_shaped sd) (SeqAt.canLay_of_shaped se) (SeqAt.room_of_shaped sd hu)).eqP
theorem hitsV_run {P : Program} {w : World} {A : Around} {s : Shared} {F : V → V → Bool → Prop} (ih : ∀ x y v u b, F x y b → RelV x v → RelV y u → SeqAt.EqP P w A s v u b) {ls : List (Key × V)} {vb : List (Key × Value)} (rb : KV ls vb) {ks : List (Key × V)} {r : Bool} (h : HitsV F ls ks r) :
    ∀ {va : List (Key × Value)}, KV ks va → PySem.W.KeqHitsP P w A s vb va r := by
  induction h with
  | nil =>
    intro va ra
    unfold KV at ra
    cases ra
    exact .nil
  | @miss k v t hn =>
    intro va ra
    unfold KV at ra
    cases ra with
    | @cons p q ps qs hh tt =>
      obtain ⟨key, v'⟩ := q
      obtain ⟨h1, h2⟩ := hh
      have h1 : k = key := h1
      subst h1
      have rr : RelO none (valueAt vb k) := by rw [← hn]; exact rb.val k
      exact .miss (by
        cases c : valueAt vb k with
        | none => rfl
        | some z => rw [c] at rr; exact rr.elim)
  | @hit k v u t e b hv hF _ ihh =>
    intro va ra
    unfold KV at ra
    cases ra with
    | @cons p q ps qs hh tt =>
      obtain ⟨key, v'⟩ := q
      obtain ⟨h1, h2⟩ := hh
      have h1 : k = key := h1
      subst h1
      have rr : RelO (some u) (valueAt vb k) := by rw [← hv]; exact rb.val k
      obtain ⟨y, hy, ry⟩ := rr.some_of
      exact .hit hy (ih _ _ _ _ _ hF h2 ry) (ihh tt)
theorem eqK_run (I : Inv X pins σ H s) {A : Around} {F : V → V → Bool → Prop} (hu : A.units < cLine) (ih : ∀ x y v u b, F x y b → RelV x v → RelV y u → SeqAt.EqP X.prog X.w A.in1 s v u b) {x y : V} {v u : Value} {b : Bool} (h : EqK F H x y b) (rx : RelV x v) (ry : RelV y u)
    (E Q : Value → Shared → Prop) (q : Q (.bool b) s) : wpAny (model X.prog X.w) A (richCompare .Eq v u) Q E s := by
  obtain ⟨a, c, ks, ls, r, rfl, rfl, ha, hb, hp, rfl⟩ := h
  cases (show v = Value.ref a from rx)
  cases (show u = Value.ref c from ry)
  obtain ⟨_, ya, va, ra, da⟩ := (show ObjOk X.prog X.w H s.heap a (.dK ks) from I.hok a _ ha)
  obtain ⟨_, yb, vb, rb, db⟩ := (show ObjOk X.prog X.w H s.heap c (.dK ls) from I.hok c _ hb)
  have e1 : va.length = ks.length := ra.length.symm
  have e2 : vb.length = ls.length := rb.length.symm
  refine PySem.W.rcP_dicts (knd := mixKind X.prog X.w) (r := r) ya yb da db hu (fun e => hitsV_run ih rb (hp (by omega)) ra) E Q ?_
  rw [e1, e2]
  exact q
theorem eq1_run (I : Inv X pins σ H s) {A : Around} (hu : A.units + 65 < cLine) {x y : V} {v u : Value} {b : Bool} (h : Eq1 X.K H x y b) (rx : RelV x v) (ry : RelV y u) : SeqAt.EqP X.prog X.w A s v u b := by
  rcases h with h | ⟨a, rfl, rfl, rfl⟩ | ⟨ne, h⟩
  · exact eq0_run I (by omega) h rx ry
  · cases (show v = Value.ref a from rx)
    cases (show u = Value.ref a from ry)
    exact (SeqAt.EqAt.same _).eqP
  · have step := eqK_run I (A := A) (by omega) (fun x y v u b h r1 r2 => eq0_run I (A := A.in1) (by show A.units + 1 + 64 < cLine; omega) h r1 r2) h rx ry
    obtain ⟨a, c, _, _, _, rfl, rfl, _⟩ := h
    cases (show v = Value.ref a from rx)
    cases (show u = Value.ref c from ry)
    exact SeqAt.eqP_refs (fun z => ne (by rw [z])) step
end
def rEqW (K : PySem.W.Frag) : R2 := fun x y H Q => ∃ b, EqK (Eq1 K H) H x y b ∧ Q (.bl b) H
theorem op_eqW {X : Cx} {K : PySem.W.Frag} (hu : X.A.units + 66 < cLine) (hK : X.K = K := by rfl) : OpR X (compareOp .Eq) (rEqW K) := by
  subst hK
  intro pins s σ H x y v u Q I rx ry h
  obtain ⟨b, h, q⟩ := h
  exact eqK_run I (A := X.A) (by omega) (fun x y v u b h r1 r2 => eq1_run I (A := X.A.in1) (by show X.A.units + 1 + 65 < cLine; omega) h r1 r2) h rx ry _ _ ⟨.bl b, H, I, rfl, q⟩
end My
namespace My
open PySem PySem.W PySem.Spec PyProof.Rows L2
theorem maxOf_int : ∀ (xs : List Int) (x : Int), maxOf x xs ∈ x :: xs ∧ ∀ y ∈ x :: xs, y ≤ maxOf x xs
  | [], x => ⟨List.mem_singleton.mpr rfl, fun y hy => by rw [List.mem_singleton.mp hy]; exact Int.le_refl _⟩
  | z :: r, x => by
    have e : maxOf x (z :: r) = maxOf (if DatumOrd.lt x z = true then z else x) r := rfl
    have el : DatumOrd.lt x z = decide (x < z) := rfl
    obtain ⟨h1, h2⟩ := maxOf_int r (if DatumOrd.lt x z = true then z else x)
    rw [e]
    rw [el] at h1 h2 ⊢
    by_cases c : x < z
    · rw [if_pos (decide_eq_true c)] at h1 h2 ⊢
      refine ⟨List.mem_cons_of_mem _ h1, fun y hy => ?_⟩
      rcases List.mem_cons.mp hy with rfl | hy
      · have := h2 z List.mem_cons_self
        omega
      · exact h2 y hy
    · have c' : ¬ (decide (x < z) = true) := fun h => c (of_decide_eq_true h)
      rw [if_neg c'] at h1 h2 ⊢
      refine ⟨?_, fun y hy => ?_⟩
      · rcases List.mem_cons.mp h1 with h | h
        · rw [h]; exact List.mem_cons_self
        · exact List.mem_cons_of_mem _ (List.mem_cons_of_mem _ h)
      · rcases List.mem_cons.mp hy with rfl | hy
        · exact h2 y List.mem_cons_self
        · rcases List.mem_cons.mp hy with rfl | hy
          · have := h2 x List.mem_cons_self
            omega
          · exact h2 y (List.mem_cons_of_mem _ hy)
def rMaxLD (K : PySem.W.Frag) : List V → List V → Hp → VK → Prop := fun xs zs H Q => ∃ (a : Addr) (ks : List Int) (d : Int), xs = [.ref a] ∧ zs = [.int d] ∧ SqL K H a (ks.map V.int) ∧ (ks = [] → Q (.int d) H) ∧ (∀ m ∈ ks, (∀ y ∈ ks, y ≤ m) → Q (.int m) H)
theorem holdAll_ints {h : Heap} : ∀ {vs : List Value} {ks : List Int}, IntsAre vs ks → HoldAll h vs ks := by
  intro vs ks hi
  induction hi with
  | nil => exact ⟨_, .nil⟩
  | cons n t r ih =>
    obtain ⟨as, ih⟩ := ih
    exact ⟨_, .cons (.int _ _) ih⟩
theorem cr_maxLD {X : Cx} {K : PySem.W.Frag} (hcalm : X.calm = true) (hu : X.A.units + 2 < cLine) (hK : X.K = K := by rfl) : CallRK X (.builtin "max") [Str.ofString "default"] (rMaxLD K) := by
  subst hK
  intro pins s σ H xs zs us ws Q I r rz h
  obtain ⟨a, ks, d, rfl, rfl, hs, q0, q1⟩ := h
  obtain ⟨u, rfl, rx⟩ := vals1 r
  obtain rfl : u = Value.ref a := rx
  obtain ⟨wd, rfl, rd⟩ := vals1 rz
  obtain ⟨its, rv, hl, _⟩ := I.list hs
  show wpAny _ X.A (call (.builtin "max") [.ref a] [(Str.ofString "default", wd)]) _ _ _
  have hi := rv.ints
  refine max_list_datum_default (α := Int) (I.ok.hd hcalm) hl.isList (xs := ks) (by simpa using holdAll_ints hi) (by show X.A.units + 1 + 0 < cLine; omega) (fun e h' tk hk' => ?_) fun y ys i v h' tk e hv hh hk' => ?_
  · exact ⟨.int d, H, I.kept hk', rd, q0 e⟩
  · obtain ⟨m1, m2⟩ := maxOf_int ys y
    obtain ⟨as, hrd⟩ := hh
    have hrd : Reads h' v (.int (maxOf y ys)) as := hrd
    cases hrd with
    | int i t => exact ⟨.int _, H, I.kept hk', ⟨t, rfl⟩, q1 _ (by rw [e]; exact m1) (by rw [e]; exact m2)⟩
end My
namespace My
open PySem PySem.Spec PyProof.Rows L2 HT
section
variable {prog : Program} {w : World} {A : Around} {E : Value → Shared → Prop} {s : Shared}
theorem adjust_rev (n : Nat) : Builtin.Slice.sliceAdjust none none (-1) (n : Int) = ((n : Int) - 1, -1) := by
  unfold Builtin.Slice.sliceAdjust
  simp
theorem places_rev (n : Nat) : Builtin.Slice.slicePlaces ((n : Int) - 1) (-1) (-1) = n := by
  unfold Builtin.Slice.slicePlaces
  have h1 : ¬ ((-1 : Int) > 0) := by omega
  have h2 : (- (-1 : Int)) = 1 := by decide
  simp only [h1, if_false, h2, Int.ediv_one]
  split <;> omega
theorem sliceApplied_rev {sl : Addr} {vl vu vs : Value} {n : Nat} {Q : Int × Int × Nat → Shared → Prop} (hs : s.heap.IsSliceOf sl vl vu vs) (pl : IsPart vl none) (pu : IsPart vu none) (ps : IsPart vs (some (-1)))
    (h : Q ((n : Int) - 1, -1, n) s) : wpAny (model prog w) A (Builtin.Slice.sliceApplied (.ref sl) (pure (n : Int))) Q E s := by
  obtain ⟨os, hos, hcs, hds⟩ := id hs
  unfold Builtin.Slice.sliceApplied Builtin.Slice.sliceFields
  refine wpAny_bind (wpAny_bind (wpAny_field hos hds (x := vl) rfl (wpAny_bind (wpAny_field hos hds (x := vu) rfl (wpAny_bind (wpAny_field hos hds (x := vs) rfl (wpAny_pure ?_)))))))
  refine wpAny_bind (slicePart_ ps ?_)
  show wpAny _ _ (if ((-1 : Int) == 0) = true then _ else _) _ _ s
  rw [if_neg (by decide)]
  refine wpAny_bind (slicePart_ pl (wpAny_bind (slicePart_ pu (wpAny_bind (wpAny_pure ?_)))))
  show wpAny _ _ (match Builtin.Slice.sliceAdjust none none (-1) (n : Int) with | (lo, hi) => pure (lo, (-1 : Int), Builtin.Slice.slicePlaces lo hi (-1))) _ _ s
  rw [adjust_rev n]
  show wpAny _ _ (pure ((n : Int) - 1, (-1 : Int), Builtin.Slice.slicePlaces ((n : Int) - 1) (-1) (-1))) _ _ s
  rw [places_rev]
  exact wpAny_pure h
theorem pick_rev (xs : Array Value) : ((List.range xs.size).filterMap fun (m : Nat) => xs[(((xs.size : Int) - 1) + (m : Int) * (-1)).toNat]?).toArray = xs.toList.reverse.toArray := by
  have e : (fun (m : Nat) => xs[(((xs.size : Int) - 1) + (m : Int) * (-1)).toNat]?) = (fun (k : Nat) => xs[k]?) ∘ fun (m : Nat) => (((xs.size : Int) - 1) + (m : Int) * (-1)).toNat := rfl
  rw [e, ← List.filterMap_map]
  have e2 : (List.range xs.size).map (fun m : Nat => (((xs.size : Int) - 1) + (m : Int) * (-1)).toNat) = (List.range xs.size).map (fun k => xs.size - 1 - k) := List.map_congr_left fun m hm => by
    have := List.mem_range.mp hm
    omega
  rw [e2, PySem.W.krv_range, List.filterMap_reverse, PySem.W.krv_all]
theorem getItem_tuple_rev {t sl : Addr} {items : Array Value} {vl vu vs : Value} {Q : Value → Shared → Prop} (ht : IsTup s.heap t items) (hs : s.heap.IsSliceOf sl vl vu vs) (pl : IsPart vl none) (pu : IsPart vu none) (ps : IsPart vs (some (-1)))
    (h : Q (.ref s.heap.objs.size) { s with heap := s.heap.push { cls := .type "tuple", data := .seq items.toList.reverse.toArray } })
    (hsz : items.size ≤ sizeLine) : wpAny (model prog w) A (getItem (.ref t) (.ref sl)) Q E s := by
  have htake : sizeOk (.seq items.toList.reverse.toArray) := by
    show items.toList.reverse.toArray.size ≤ sizeLine
    rw [List.size_toArray, List.length_reverse, Array.length_toList]
    exact hsz
  obtain ⟨os, hos, hcs, hds⟩ := id hs
  have hTs : s.TypeIs (.ref sl) "slice" := ⟨os, hos, hcs⟩
  unfold getItem
  try with_reducible refine wpAny_holding ?_
  first | refine wpAny_bind (wpAny_pure ?_) | skip
  refine wpAny_bind (wpAny_sequenceKey ht.typeIs (by decide) ?_)
  refine wpAny_bind (wpAny_callSpecial?_slot (name := Str.ofString "__getitem__") ht.typeIs PyProof.Rows.slot_tuple_getitem
    (wpAny_call_entry PyProof.Rows.slot_tuple_getitem ht.typeIs entry_tuple_getitem ?_ (args_tuple_getitem _ _)))
  show wpAny _ _ (Builtin.Tuple.tupleItemsOf (.ref t) >>= _) _ _ s
  refine wpAny_bind (tupleItemsOf_ ht ?_)
  refine wpAny_bind (wpAny_typeOf hTs ?_)
  rw [if_pos (by decide)]
  refine wpAny_bind (sliceApplied_rev hs pl pu ps ?_)
  have hno : ¬ ((((items.size : Int) - 1) == 0 && (-1 : Int) == 1 && items.size == items.size) = true) := by
    intro q
    rw [Bool.and_eq_true, Bool.and_eq_true] at q
    exact absurd (eq_of_beq q.1.2) (by decide)
  show wpAny _ _ (if (((items.size : Int) - 1) == 0 && (-1 : Int) == 1 && items.size == items.size) = true then _ else _) _ _ s
  rw [if_neg hno, pick_rev]
  first
    | exact wpAny_bind (m := Builtin.Tuple.tupleExact _) (wpAny_newObj_type (wpAny_pure ⟨_, rfl, wpAny_pure h⟩) htake)
    | exact wpAny_bind (m := Builtin.Tuple.tupleExact _) (wpAny_newObj_type (wpAny_bind (wpAny_pure (wpAny_pure ⟨_, rfl, wpAny_pure h⟩))) htake)
    | exact wpAny_bind (wpAny_bind (m := Builtin.Tuple.tupleExact _) (wpAny_newObj_type (wpAny_pure (wpAny_pure ⟨_, rfl, wpAny_pure h⟩)) htake))
    | exact wpAny_bind (wpAny_bind (m := Builtin.Tuple.tupleExact _) (wpAny_newObj_type (wpAny_pure ⟨_, rfl, wpAny_pure h⟩) htake))
end
theorem kNotInD {X : Cx} {K : PySem.W.Frag} (hu : X.A.units + 65 < cLine) (h : X.K = K := by rfl) : OpR X (compareOp .NotIn) (rNotInD K) := by subst h; exact op_notInD hu
def tRevD (te : TE) : TE := fun σ H Q => te σ H fun x H1 => ∃ ds, Td H1 x (.tuple ds) ∧ ∀ v H', Same H1 H' → Td H' v (.tuple ds.reverse) → Q v H'
theorem TdAll.rev {H : Hp} : ∀ {xs : List V} {ds : List PyData}, TdAll H xs ds → TdAll H xs.reverse ds.reverse
  | [], _, h => by cases h; exact .nil
  | x :: xs, _, h => by
    cases h with
    | cons h1 h2 =>
      rw [List.reverse_cons, List.reverse_cons]
      exact (TdAll.rev h2).append (.cons h1 .nil)
theorem pe_revD {X : Cx} {e : Expr} {te : TE} {k : Nat} {p1 p2 p3 pos : Pos} (he : PE X e te) : PE X (.Subscript e (.Slice none none (some (.UnaryOp .USub (.Constant (.int 1) k p1) p2)) p3) pos) (tRevD te) := by
  refine ⟨fun pins s σ H Q I h => ?_⟩
  refine Subscript_ (thn (he.run pins s σ H _ I h) fun v s1 ⟨x, H1, I1, r1, q1⟩ => ?_)
  obtain ⟨ds, hT, q⟩ := q1
  obtain ⟨a, xs, ex, ha, hxs⟩ := hT.tup_inv
  subst ex
  cases r1
  have hst : PO X (some (.UnaryOp .USub (.Constant (.int 1) k p1) p2)) (tPart (tUn (rU fun i => .int (-i)) (tC (.int 1)))) := po_some (pe_un un_neg pe_int)
  refine wpAny_Slice (thn (po_none.run pins s1 σ H1 (fun o H2 => o = none ∧ H2 = H1) I1 ⟨rfl, rfl⟩) fun vl s2 ⟨l, H2, I2, pl, el, e2⟩ => ?_)
  subst el e2
  refine thn (po_none.run pins s2 σ H2 (fun o H3 => o = none ∧ H3 = H2) I2 ⟨rfl, rfl⟩) fun vu s3 ⟨u, H3, I3, pu, eu, e3⟩ => ?_
  subst eu e3
  refine thn (hst.run pins s3 σ H3 (fun o H4 => o = some (-1) ∧ H4 = H3) I3 ⟨1, rfl, -1, rfl, rfl, rfl⟩) fun vs s4 ⟨o, H4, I4, ps, eo, e4⟩ => ?_
  subst eo e4
  have I5 : Inv X pins σ H4 { s4 with heap := s4.heap.push { cls := .type "slice", data := .fields #[vl, vu, vs] } } := I4.kept (t' := s4.toks) fun b ob q => Heap.get?_push_of_some _ q
  obtain ⟨its, r, ht, hz⟩ := I5.tuple (show SqT X.K H4 a xs from SqT.of ha)
  have hlen := r.length
  show wpAny (model X.prog X.w) X.A (subscriptTail e (.Slice none none (some (.UnaryOp .USub (.Constant (.int 1) k p1) p2)) p3) (.ref a) (.ref s4.heap.objs.size)) (EP X pins σ Q) X.xe { s4 with heap := s4.heap.push { cls := .type "slice", data := .fields #[vl, vu, vs] } }
  refine tail_any (ops := [.ref a, .ref s4.heap.objs.size]) ht.typeIs (PyProof.Rows.slot_tuple_getitem.lookup) ?_ (by with_unfolding_all rfl)
  refine getItem_tuple_rev ht (Heap.IsSliceOf.new _ vl vu vs) pl pu ps ?_ (by rw [List.size_toArray]; omega)
  have hn := I5.hok.fresh (Nat.le_refl _)
  refine ⟨.ref _, _, I5.laid (t' := s4.toks) (o := .tup xs.reverse) (fun b ob q => Heap.get?_push_of_some _ q) (Nat.le_refl _) ?_, rfl, q _ _ (Same.upd (Same.refl H4) hn) ?_⟩
  · exact ⟨by rw [List.length_reverse]; exact hz, _, r.reverse, IsTup.new _ _⟩
  · exact .tup upd_same (hxs.rev.mono (KT.of (Same.upd (Same.refl H4) hn)))
end My
namespace My
open PySem L2
abbrev Cont := Nat → Int → Option (Int × List (Option Int))
def noM : Cont := fun _ _ => none
def upM (M : Cont) (i : Nat) (k : Int) (r : Option (Int × List (Option Int))) : Cont := fun i2 k2 => if i2 = i ∧ k2 = k then r else M i2 k2
theorem upM_same {M : Cont} {i : Nat} {k : Int} {r : Option (Int × List (Option Int))} : upM M i k r i k = r := if_pos ⟨rfl, rfl⟩
theorem upM_tab {M : Cont} {i i2 : Nat} {k k2 : Int} {r : Option (Int × List (Option Int))} (h : i2 ≠ i) : upM M i k r i2 k2 = M i2 k2 := if_neg fun z => h z.1
theorem upM_ne {M : Cont} {i i2 : Nat} {k k2 : Int} {r : Option (Int × List (Option Int))} (h : k2 ≠ k) : upM M i k r i2 k2 = M i2 k2 := if_neg fun z => h z.2
def Says (H : Hp) : Option V → Option (Int × List (Option Int)) → Prop
  | none, none => True
  | some v, some r => Td H v (rowD r.1 r.2)
  | _, _ => False
theorem Says.mono {H H' : Hp} {a : Option V} {b : Option (Int × List (Option Int))} (h : Says H a b) (k : KT H H') : Says H' a b := by
  cases a <;> cases b
  · trivial
  · exact h
  · exact h
  · exact (show Td H _ _ from h).mono k
def Holds (H : Hp) (ct : List (List (Key × V))) (M : Cont) : Prop := ∀ (i : Nat) (kvs : List (Key × V)), ct[i]? = some kvs → ∀ k : Int, Says H (valV kvs (Sum.inl k)) (M i k)
theorem Holds.mono {H H' : Hp} {ct : List (List (Key × V))} {M : Cont} (h : Holds H ct M) (k : KT H H') : Holds H' ct M := fun i kvs hi x => (h i kvs hi x).mono k
theorem Holds.put {H : Hp} {ct : List (List (Key × V))} {M : Cont} {i : Nat} {kvs : List (Key × V)} {k lab : Int} {cs : List (Option Int)} {v : V} (h : Holds H ct M) (hc : ct[i]? = some kvs) (hv : Td H v (rowD lab cs)) : Holds H (ct.set i (putK kvs (Sum.inl k) v)) (upM M i k (some (lab, cs))) := by
  intro j kv2 hj k2
  have hil := (List.getElem?_eq_some_iff.mp hc).1
  by_cases z : j = i
  · subst z
    rw [List.getElem?_set_self hil] at hj
    cases hj
    rw [valV_put]
    by_cases z2 : k2 = k
    · subst z2
      rw [if_pos rfl, upM_same]
      exact hv
    · rw [if_neg (fun e => z2 (Sum.inl.inj e)), upM_ne z2]
      exact h j kvs hc k2
  · rw [List.getElem?_set_ne (Ne.symm z)] at hj
    rw [upM_tab z]
    exact h j kv2 hj k2
theorem valV_dropC : ∀ (kvs : List (Key × V)) (k j : Key), valV (dropK kvs k) j = if j = k then none else valV kvs j
  | [], k, j => by
    show none = _
    split <;> rfl
  | p :: r, k, j => by
    have ih := valV_dropC r k j
    by_cases e : p.1 = k
    · rw [dropK_pos e, ih]
      by_cases z : j = k
      · rw [if_pos z, if_pos z]
      · rw [if_neg z, if_neg z, valV_neg (fun y => z (by rw [← y, e]))]
    · rw [dropK_neg e]
      by_cases y : p.1 = j
      · rw [valV_pos y, valV_pos y, if_neg (fun z => e (by rw [y, z]))]
      · rw [valV_neg y, valV_neg y, ih]
theorem Holds.drop {H : Hp} {ct : List (List (Key × V))} {M : Cont} {i : Nat} {kvs : List (Key × V)} {k : Int} (h : Holds H ct M) (hc : ct[i]? = some kvs) : Holds H (ct.set i (dropK kvs (Sum.inl k))) (upM M i k none) := by
  intro j kv2 hj k2
  have hil := (List.getElem?_eq_some_iff.mp hc).1
  by_cases z : j = i
  · subst z
    rw [List.getElem?_set_self hil] at hj
    cases hj
    rw [valV_dropC]
    by_cases z2 : k2 = k
    · subst z2
      rw [if_pos rfl, upM_same]
      trivial
    · rw [if_neg (fun e => z2 (Sum.inl.inj e)), upM_ne z2]
      exact h j kvs hc k2
  · rw [List.getElem?_set_ne (Ne.symm z)] at hj
    rw [upM_tab z]
    exact h j kv2 hj k2
theorem Holds.nils {H : Hp} {pl : Plan} : Holds H (pl.map fun _ => []) noM := by
  intro i kvs hi k
  rw [List.getElem?_map] at hi
  obtain ⟨e, _, rfl⟩ := Option.map_eq_some_iff.mp hi
  trivial
theorem cell_eqv (a b : Option Int) : PyData.eqv (cellD a) (cellD b) = decide (a = b) := by
  cases a <;> cases b <;> simp [cellD, PyData.eqv] <;> rfl
theorem cells_eqv : ∀ cs cs2 : List (Option Int), PyData.eqvAll (cs.map cellD) (cs2.map cellD) = decide (cs = cs2)
  | [], [] => by simp [PyData.eqvAll]
  | [], _ :: _ => by simp [PyData.eqvAll]
  | _ :: _, [] => by simp [PyData.eqvAll]
  | a :: cs, b :: cs2 => by
    simp only [List.map_cons, PyData.eqvAll, cell_eqv, cells_eqv cs cs2, List.cons.injEq]
    by_cases h1 : a = b <;> by_cases h2 : cs = cs2 <;> simp [h1, h2]
theorem rowD_eqv (lab lab2 : Int) (cs cs2 : List (Option Int)) : PyData.eqv (rowD lab cs) (rowD lab2 cs2) = decide (lab = lab2 ∧ cs = cs2) := by
  unfold rowD
  simp only [PyData.eqv, PyData.eqvAll, cells_eqv, Bool.and_true]
  by_cases h1 : lab = lab2 <;> by_cases h2 : cs = cs2 <;> simp [h1, h2]
theorem rowC_fine (lab : Int) (cs : List (Option Int)) : SeqAt.shaped (rowD lab cs) = true := by
  refine Fine.sh (n := 3) (Fine.tup (n := 2) fun d hd => ?_) (by decide)
  rcases List.mem_cons.mp hd with rfl | hd
  · exact (Fine.int _).up (by decide)
  · rw [List.mem_singleton.mp hd]
    refine Fine.tup (n := 1) fun d hd => ?_
    obtain ⟨c, _, rfl⟩ := List.mem_map.mp hd
    cases c with
    | none => exact Fine.none
    | some x => exact Fine.int _
def Eq0C (H : Hp) (x y : V) (b : Bool) : Prop := ∃ (r r2 : Int × List (Option Int)), Td H x (rowD r.1 r.2) ∧ Td H y (rowD r2.1 r2.2) ∧ b = decide (r.1 = r2.1 ∧ r.2 = r2.2)
theorem Eq0C.kt {H H' : Hp} {x y : V} {b : Bool} (h : Eq0C H x y b) (k : KT H H') : Eq0C H' x y b := by
  obtain ⟨r, r2, h1, h2, h3⟩ := h
  exact ⟨r, r2, h1.mono k, h2.mono k, h3⟩
theorem Eq0C.eq0 {K : PySem.W.Frag} {H : Hp} {x y : V} {b : Bool} (h : Eq0C H x y b) : Eq0 K H x y b := by
  obtain ⟨r, r2, h1, h2, h3⟩ := h
  exact ⟨_, _, h1.dp, h2.dp, rowC_fine _ _, rowC_fine _ _, by rw [rowD_eqv]; exact h3⟩
theorem HitsV.mapC {F G : V → V → Bool → Prop} {ls ks : List (Key × V)} {r : Bool} (h : HitsV F ls ks r) (k : ∀ x y b, F x y b → G x y b) : HitsV G ls ks r := by
  induction h with
  | nil => exact .nil
  | miss hn => exact .miss hn
  | hit hv hF _ ih => exact .hit hv (k _ _ _ hF) ih
theorem Says.some {H : Hp} {v : V} {b : Option (Int × List (Option Int))} (h : Says H (some v) b) : ∃ r, b = some r ∧ Td H v (rowD r.1 r.2) := by
  cases b with
  | none => exact h.elim
  | some r => exact ⟨r, rfl, h⟩
theorem Says.none {H : Hp} {b : Option (Int × List (Option Int))} (h : Says H none b) : b = none := by
  cases b with
  | none => rfl
  | some r => exact h.elim
theorem tab_step {H : Hp} {w1 : Nat} {ks ls : List (Key × V)} (R1 : RowsAt H ks w1) {f g : Int → Option (Int × List (Option Int))} (h1 : ∀ k, Says H (valV ks (Sum.inl k)) (f k)) (h2 : ∀ k, Says H (valV ls (Sum.inl k)) (g k)) :
    ∀ {t : List (Key × V)}, (∀ q ∈ t, q ∈ ks) → ∃ b, HitsV (Eq0C H) ls t b ∧ (b = true ↔ ∀ q ∈ t, ∀ k, q.1 = Sum.inl k → f k = g k)
  | [], _ => ⟨true, .nil, by simp⟩
  | (q, v) :: t, hs => by
    obtain ⟨b, hb, hi⟩ := tab_step R1 h1 h2 (t := t) fun x hx => hs x (List.mem_cons_of_mem _ hx)
    have hm := hs (q, v) List.mem_cons_self
    obtain ⟨k, _, _, hk, _⟩ := R1.row _ hm
    have hk : q = Sum.inl k := hk
    subst hk
    obtain ⟨i, hil, ei⟩ := List.getElem_of_mem hm
    have hv : valV ks (Sum.inl k) = some v := valV_at R1.nd (by rw [List.getElem?_eq_getElem hil, ei])
    have a1 := h1 k
    rw [hv] at a1
    obtain ⟨r, hf, hT⟩ := a1.some
    cases c : valV ls (Sum.inl k) with
    | none =>
      have a2 := h2 k
      rw [c] at a2
      refine ⟨false, .miss c, ⟨fun z => Bool.noConfusion z, fun z => ?_⟩⟩
      have := z (Sum.inl k, v) List.mem_cons_self k rfl
      rw [hf, a2.none] at this
      cases this
    | some u =>
      have a2 := h2 k
      rw [c] at a2
      obtain ⟨r2, hg, hU⟩ := a2.some
      refine ⟨_, .hit c ⟨r, r2, hT, hU, rfl⟩ hb, ?_⟩
      rw [Bool.and_eq_true, hi, decide_eq_true_iff]
      constructor
      · rintro ⟨⟨z1, z2⟩, z⟩ x hx k2 hk2
        rcases List.mem_cons.mp hx with rfl | hx
        · cases (Sum.inl.inj hk2)
          rw [hf, hg]
          exact congrArg some (Prod.ext z1 z2)
        · exact z x hx k2 hk2
      · intro z
        have e := z (Sum.inl k, v) List.mem_cons_self k rfl
        rw [hf, hg] at e
        cases (Option.some.inj e)
        exact ⟨⟨rfl, rfl⟩, fun x hx => z x (List.mem_cons_of_mem _ hx)⟩
theorem pigeonK : ∀ (l m : List Key), l.Nodup → (∀ x ∈ l, x ∈ m) → l.length ≤ m.length
  | [], _, _, _ => Nat.zero_le _
  | x :: r, m, h, s => by
    obtain ⟨h1, h2⟩ := List.nodup_cons.mp h
    have hm := s x List.mem_cons_self
    have := pigeonK r (m.filter fun y => decide (y ≠ x)) h2 fun y hy => List.mem_filter.mpr ⟨s y (List.mem_cons_of_mem _ hy), decide_eq_true fun e => h1 (by rw [← e]; exact hy)⟩
    have e : (m.filter fun y => decide (y ≠ x)).length < m.length := List.length_filter_lt_length_iff_exists.mpr ⟨x, hm, by simp⟩
    rw [List.length_cons]
    omega
theorem valV_pairC : ∀ {kvs : List (Key × V)} {k : Key} {v : V}, valV kvs k = some v → (k, v) ∈ kvs
  | [], _, _, h => by cases h
  | p :: r, k, v, h => by
    by_cases e : p.1 = k
    · rw [valV_pos e] at h
      cases h
      subst e
      exact List.mem_cons_self
    · rw [valV_neg e] at h
      exact List.mem_cons_of_mem _ (valV_pairC h)
theorem sub_of {H : Hp} {w1 : Nat} {ks ls : List (Key × V)} (R1 : RowsAt H ks w1) {f g : Int → Option (Int × List (Option Int))} (h1 : ∀ k, Says H (valV ks (Sum.inl k)) (f k)) (h2 : ∀ k, Says H (valV ls (Sum.inl k)) (g k))
    (z : ∀ q ∈ ks, ∀ k, q.1 = Sum.inl k → f k = g k) : ∀ x ∈ ks.map (·.1), x ∈ ls.map (·.1) := fun x hx => by
  obtain ⟨q, hq, rfl⟩ := List.mem_map.mp hx
  obtain ⟨k2, _, _, hk2, _⟩ := R1.row q hq
  have e := z q hq k2 hk2
  have hv : valV ks q.1 = some q.2 := by
    obtain ⟨i, hil, ei⟩ := List.getElem_of_mem hq
    exact valV_at R1.nd (by rw [List.getElem?_eq_getElem hil, ei])
  rw [hk2] at hv
  rw [hk2]
  have b1 := h1 k2
  rw [hv] at b1
  obtain ⟨r, hr, _⟩ := b1.some
  cases d2 : valV ls (Sum.inl k2) with
  | none =>
    have b2 := h2 k2
    rw [d2] at b2
    rw [hr, b2.none] at e
    cases e
  | some u2 => exact List.mem_map.mpr ⟨_, valV_pairC d2, rfl⟩
theorem tab_iff {H : Hp} {w1 w2 : Nat} {ks ls : List (Key × V)} (R1 : RowsAt H ks w1) (R2 : RowsAt H ls w2) {f g : Int → Option (Int × List (Option Int))} (h1 : ∀ k, Says H (valV ks (Sum.inl k)) (f k)) (h2 : ∀ k, Says H (valV ls (Sum.inl k)) (g k)) :
    ∃ b, HitsV (Eq0C H) ls ks b ∧ ((ks.length == ls.length && b) = true ↔ ∀ k, f k = g k) := by
  obtain ⟨b, hb, hi⟩ := tab_step R1 h1 h2 (t := ks) fun q hq => hq
  refine ⟨b, hb, ?_⟩
  rw [Bool.and_eq_true, beq_iff_eq, hi]
  constructor
  · rintro ⟨hl, z⟩ k
    cases c : valV ks (Sum.inl k) with
    | some v => exact z _ (valV_pairC c) k rfl
    | none =>
      have a1 := h1 k
      rw [c] at a1
      cases d : valV ls (Sum.inl k) with
      | none =>
        have a2 := h2 k
        rw [d] at a2
        rw [a1.none, a2.none]
      | some u =>
        exfalso
        have sub : ∀ x ∈ (Sum.inl k :: ks.map (·.1) : List Key), x ∈ ls.map (·.1) := fun x hx => by
          rcases List.mem_cons.mp hx with rfl | hx
          · exact List.mem_map.mpr ⟨_, valV_pairC d, rfl⟩
          · exact sub_of R1 h1 h2 z x hx
        have := pigeonK _ _ (List.nodup_cons.mpr ⟨valV_not c, R1.nd⟩) sub
        rw [List.length_cons, List.length_map, List.length_map] at this
        omega
  · intro z
    have p1 := pigeonK _ _ R1.nd (sub_of R1 h1 h2 fun q _ k _ => z k)
    have p2 := pigeonK _ _ R2.nd (sub_of R2 h2 h1 fun q _ k _ => (z k).symm)
    rw [List.length_map, List.length_map] at p1 p2
    exact ⟨by omega, fun q _ k _ => z k⟩
theorem cell_uniq {H : Hp} {x : V} {a b : Option Int} (h : Td H x (cellD a)) (h2 : Td H x (cellD b)) : a = b := by
  cases a <;> cases b <;> cases h <;> cases h2 <;> rfl
theorem cells_uniq {H : Hp} : ∀ {xs : List V} {cs cs2 : List (Option Int)}, TdAll H xs (cs.map cellD) → TdAll H xs (cs2.map cellD) → cs = cs2
  | _, [], [], _, _ => rfl
  | _, [], _ :: _, h, h2 => by cases h; cases h2
  | _, _ :: _, [], h, h2 => by cases h2; cases h
  | _, a :: cs, b :: cs2, h, h2 => by
    cases h with
    | cons p1 p2 =>
      cases h2 with
      | cons q1 q2 => rw [cell_uniq p1 q1, cells_uniq p2 q2]
theorem row_uniq {H : Hp} {v : V} {r r2 : Int × List (Option Int)} (h : Td H v (rowD r.1 r.2)) (h2 : Td H v (rowD r2.1 r2.2)) : r = r2 := by
  obtain ⟨t, tc, xs, rfl, a1, a2, a3⟩ := rowD_inv h
  obtain ⟨t', tc', xs', e, b1, b2, b3⟩ := rowD_inv h2
  cases e
  rw [a1] at b1
  have e1 := HO.tup.inj (Option.some.inj b1)
  simp only [List.cons.injEq, V.int.injEq, V.ref.injEq, and_true] at e1
  obtain ⟨z1, rfl⟩ := e1
  rw [a2] at b2
  cases (HO.tup.inj (Option.some.inj b2))
  exact Prod.ext z1 (cells_uniq a3 b3)
theorem says_uniq {H : Hp} {o : Option V} {a b : Option (Int × List (Option Int))} (h : Says H o a) (h2 : Says H o b) : a = b := by
  cases o with
  | none => rw [h.none, h2.none]
  | some v =>
    obtain ⟨r, e1, t1⟩ := h.some
    obtain ⟨r2, e2, t2⟩ := h2.some
    rw [e1, e2, row_uniq t1 t2]
def OkC (H : Hp) (pl : Plan) (ds : List Addr) (ct : List (List (Key × V))) : Prop := ds.length = pl.length ∧ ∀ (i : Nat) (d : Addr) (kvs : List (Key × V)), ds[i]? = some d → ct[i]? = some kvs → H d = some (.dK kvs)
theorem eqM {H : Hp} {pl : Plan} (nd : (pl.map (·.1)).Nodup) {c1 c2 : List (List (Key × V))} (l1 : c1.length = pl.length) (l2 : c2.length = pl.length) (R1 : ∀ kvs ∈ c1, ∃ w, RowsAt H kvs w) (R2 : ∀ kvs ∈ c2, ∃ w, RowsAt H kvs w) {M1 M2 : Cont} (m1 : Holds H c1 M1) (m2 : Holds H c2 M2) :
    ∃ b, (b = true ↔ ∀ i, i < pl.length → ∀ k, M1 i k = M2 i k) ∧ ∀ (K : PySem.W.Frag) (H' : Hp) (a1 a2 : Addr) (d1 d2 : List Addr), KT H H' → OkC H' pl d1 c1 → OkC H' pl d2 c2 → H' a1 = some (.dK (rowsK pl d1)) → H' a2 = some (.dK (rowsK pl d2)) → EqK (Eq1 K H') H' (.ref a1) (.ref a2) b := by
  have key : ∀ n, n ≤ pl.length → ∃ r, (r = true ↔ ∀ i, pl.length - n ≤ i → i < pl.length → ∀ k, M1 i k = M2 i k) ∧ ∀ (K : PySem.W.Frag) (H' : Hp) (d1 d2 : List Addr), KT H H' → OkC H' pl d1 c1 → OkC H' pl d2 c2 → HitsV (Eq1 K H') (rowsK pl d2) ((rowsK pl d1).drop (pl.length - n)) r := by
    intro n
    induction n with
    | zero =>
      intro _
      refine ⟨true, ⟨fun _ i a b => by omega, fun _ => rfl⟩, fun K H' d1 d2 _ o1 o2 => ?_⟩
      rw [Nat.sub_zero, List.drop_eq_nil_of_le (by rw [rowsK_len o1.1]; exact Nat.le_refl _)]
      exact .nil
    | succ n ih =>
      intro hn
      obtain ⟨r, hri, hr⟩ := ih (by omega)
      have hi : pl.length - (n + 1) < pl.length := by omega
      obtain ⟨i, ei⟩ : ∃ i, i = pl.length - (n + 1) := ⟨_, rfl⟩
      have hi1 : i < c1.length := by omega
      have hi2 : i < c2.length := by omega
      obtain ⟨w1, W1⟩ := R1 _ (List.getElem_mem hi1)
      obtain ⟨w2, W2⟩ := R2 _ (List.getElem_mem hi2)
      have s1 := m1 i _ (List.getElem?_eq_getElem hi1)
      have s2 := m2 i _ (List.getElem?_eq_getElem hi2)
      obtain ⟨b, hb, hs⟩ := tab_iff W1 W2 s1 s2
      refine ⟨((c1[i].length == c2[i].length) && b) && r, ?_, fun K H' d1 d2 kt o1 o2 => ?_⟩
      · rw [Bool.and_eq_true, hs, hri]
        constructor
        · rintro ⟨z1, z2⟩ j hj hjl
          by_cases e : j = i
          · rw [e]; exact z1
          · exact z2 j (by omega) hjl
        · intro z
          exact ⟨z i (by omega) (by omega), fun j hj hjl => z j (by omega) hjl⟩
      have hpi : i < pl.length := by omega
      have h1 : d1[i]? = some (d1[i]'(by rw [o1.1]; exact hpi)) := List.getElem?_eq_getElem _
      have h2 : d2[i]? = some (d2[i]'(by rw [o2.1]; exact hpi)) := List.getElem?_eq_getElem _
      generalize d1[i]'(by rw [o1.1]; exact hpi) = x1 at *
      generalize d2[i]'(by rw [o2.1]; exact hpi) = x2 at *
      have hp : pl[i]? = some pl[i] := List.getElem?_eq_getElem hpi
      have hrow : (rowsK pl d1)[i]? = some (Sum.inr pl[i].1, V.ref x1) := by
        unfold rowsK
        rw [List.getElem?_zip_eq_some]
        exact ⟨by rw [List.getElem?_map, hp]; rfl, by rw [List.getElem?_map, h1]; rfl⟩
      have hdrop : (rowsK pl d1).drop (pl.length - (n + 1)) = (Sum.inr pl[i].1, V.ref x1) :: (rowsK pl d1).drop (pl.length - n) := by
        rw [← ei]
        obtain ⟨hl, hg⟩ := List.getElem?_eq_some_iff.mp hrow
        rw [List.drop_eq_getElem_cons hl, hg]
        congr 2
        omega
      rw [hdrop]
      have hx1 := o1.2 i x1 _ h1 (List.getElem?_eq_getElem hi1)
      have hx2 := o2.2 i x2 _ h2 (List.getElem?_eq_getElem hi2)
      refine .hit (rowsK_get nd hp h2) ?_ (hr K H' d1 d2 kt o1 o2)
      by_cases hxx : x1 = x2
      · subst hxx
        have hcc : c1[i] = c2[i] := by
          rw [hx1] at hx2
          exact HO.dK.inj (Option.some.inj hx2)
        refine .inr (.inl ⟨x1, rfl, rfl, hs.mpr fun k => ?_⟩)
        have q2 := s2 k
        rw [← hcc] at q2
        exact says_uniq (s1 k) q2
      · exact .inr (.inr ⟨fun z => hxx (V.ref.inj z), x1, x2, c1[i], c2[i], b, rfl, rfl, hx1, hx2, fun _ => hb.mapC fun x y b h => (h.kt kt).eq0, rfl⟩)
  obtain ⟨r, hri, hr⟩ := key pl.length (Nat.le_refl _)
  refine ⟨true && r, by rw [Bool.true_and, hri]; exact ⟨fun z i hi => z i (by omega) hi, fun z i _ hi => z i hi⟩, fun K H' a1 a2 d1 d2 kt o1 o2 h1 h2 => ⟨a1, a2, rowsK pl d1, rowsK pl d2, r, rfl, rfl, h1, h2, fun _ => ?_, ?_⟩⟩
  · have := hr K H' d1 d2 kt o1 o2
    rw [Nat.sub_self, List.drop_zero] at this
    exact this
  · rw [rowsK_len o1.1, rowsK_len o2.1]
    simp
def FreeL (M : Cont) (i : Nat) (k lab : Int) : Prop := ∀ k2 cs, k2 ≠ k → M i k2 ≠ some (lab, cs)
def LabU (M : Cont) : Prop := ∀ i k i2 k2 r r2, M i k = some r → M i2 k2 = some r2 → r.1 % 50 = r2.1 % 50 → i = i2 ∧ k = k2
end My
namespace My
open PySem PySem.Spec PyProof.Rows L2
def CPowW (i j : Int) : Prop := 0 ≤ j ∧ (Builtin.Int.intBits i : Int) * j ≤ 2 ^ 27
theorem op_powW {X : Cx} : OpR X (binaryOp .Pow) (rI CPowW fun i j => .int (i ^ j.toNat)) := opI fun _ _ _ _ _ _ _ hc q => pow_int hc.1 hc.2 q
def rPowA : R2 := fun x y H Q => ∃ i j, x = .int i ∧ y = .int j ∧ CPowW i j ∧ ∀ z : Int, Q (.int z) H
theorem op_powA {X : Cx} : OpR X (binaryOp .Pow) rPowA := by
  intro pins s σ H x y v u Q I rx ry h
  obtain ⟨i, j, ex, ey, hc, q⟩ := h
  exact op_powW pins s σ H x y v u Q I rx ry ⟨i, j, ex, ey, hc, q _⟩
theorem powW {i : Int} {b n : Nat} (hb : i.natAbs < 2 ^ b) (h0 : 0 < b) (h : b * n ≤ 2 ^ 27) : CPowW i (n : Int) := by
  refine ⟨by omega, ?_⟩
  have h1 : Builtin.Int.intBits i ≤ b := by
    unfold Builtin.Int.intBits
    have := PySem.Flt.log2_lt_of h0 hb
    split <;> omega
  have h2 : Builtin.Int.intBits i * n ≤ b * n := Nat.mul_le_mul_right n h1
  have : Builtin.Int.intBits i * n ≤ 2 ^ 27 := Nat.le_trans h2 h
  omega
def repS (x : Str) (n : Nat) : Str := ⟨(List.replicate n x.cps).foldl (· ++ ·) #[]⟩
theorem fold_cps : ∀ (l : List (Array Nat)) (a : Array Nat), (l.foldl (· ++ ·) a).toList = a.toList ++ (l.map Array.toList).flatten
  | [], a => by simp
  | x :: r, a => by
    rw [List.foldl_cons, fold_cps r, Array.toList_append, List.map_cons, List.flatten_cons, List.append_assoc]
theorem cd_rep (x : Str) (n : Nat) : cd (repS x n) = (List.replicate n (cd x)).flatten := by
  show ((List.replicate n x.cps).foldl (· ++ ·) #[]).toList = _
  rw [fold_cps, List.map_replicate]
  rfl
theorem rep_len (x : Str) (n : Nat) : (repS x n).length = n * x.length := by
  rw [cd_len, cd_rep, List.length_flatten, List.map_replicate, cd_len]
  induction n with
  | zero => simp
  | succ n ih => rw [List.replicate_succ, List.sum_cons, ih, Nat.succ_mul, Nat.add_comm]
def rMulS : R2 := fun x y H Q => ∃ (a : Str) (n : Nat), x = .str a ∧ y = .int ((n + 2 : Nat) : Int) ∧ 1 ≤ a.length ∧ a.length * (n + 2) ≤ 1000 ∧ Q (.str (repS a (n + 2))) H
def rMulS1 : R2 := fun x y H Q => ∃ (a : Str), x = .str a ∧ y = .int 1 ∧ Q (.str a) H
theorem op_mulS {X : Cx} : OpR X (binaryOp .Mult) (fun x y H Q => rMulS x y H Q ∨ rMulS1 x y H Q) := by
  refine op_or ?_ ?_
  · intro pins s σ H x y v u Q I rx ry h
    obtain ⟨a, n, rfl, rfl, ha, hl, q⟩ := h
    obtain ⟨t, rfl⟩ := (show ∃ t, v = Value.str a t from rx)
    obtain ⟨t', rfl⟩ := (show ∃ t, u = Value.int ((n + 2 : Nat) : Int) t from ry)
    have hn : n + 2 ≤ 1000 := Nat.le_trans (Nat.le_mul_of_pos_left (n + 2) ha) hl
    have g1 : ¬ (((n + 2 : Nat) : Int) < 1) := by omega
    have g2 : ((((n + 2 : Nat) : Int) == 1) || (a.length == 0)) = false := by
      have e1 : (((n + 2 : Nat) : Int) == 1) = false := beq_eq_false_iff_ne.mpr (by omega)
      have e2 : (a.length == 0) = false := beq_eq_false_iff_ne.mpr (by omega)
      rw [e1, e2]
      rfl
    have hz : Builtin.Str.tooLong (a.length * ((n + 2 : Nat) : Int).toNat) = false := by
      unfold Builtin.Str.tooLong
      have : ((n + 2 : Nat) : Int).toNat = n + 2 := by omega
      rw [this]
      exact decide_eq_false (Nat.not_lt.mpr (sizeL (Nat.le_trans hl (by decide))))
    refine P.mul_str ?_ (fun _ _ => ?_) (fun _ _ => hz) ?_
    · rw [decide_eq_false (by omega : ¬ ((n + 2 : Nat) : Int) < -(2 ^ 63 : Int)), decide_eq_false (by omega : ¬ ((n + 2 : Nat) : Int) ≥ 2 ^ 63)]
      rfl
    · have : (1000 : Int) ≤ (2 ^ 63 - 1) / ((n + 2 : Nat) : Int) := by
        rw [Int.le_ediv_iff_mul_le (by omega)]
        omega
      have h3 : a.length ≤ 1000 := Nat.le_trans (Nat.le_mul_of_pos_right _ (by omega)) hl
      omega
    · rw [if_neg g1, if_neg (by rw [g2]; decide)]
      have e : ((n + 2 : Nat) : Int).toNat = n + 2 := by omega
      rw [e]
      refine ⟨?_, .str (repS a (n + 2)), H, I.tok _, ⟨_, rfl⟩, q⟩
      show (repS a (n + 2)).length ≤ sizeLine
      rw [rep_len, Nat.mul_comm]
      exact sizeL (Nat.le_trans hl (by decide))
  · intro pins s σ H x y v u Q I rx ry h
    obtain ⟨a, rfl, rfl, q⟩ := h
    obtain ⟨t, rfl⟩ := (show ∃ t, v = Value.str a t from rx)
    obtain ⟨t', rfl⟩ := (show ∃ t, u = Value.int 1 t from ry)
    refine P.mul_str (by decide) (fun _ z => by simp at z) (fun _ z => by simp at z) ?_
    rw [if_neg (by decide), if_pos (by simp)]
    exact ⟨.str a, H, I, ⟨_, rfl⟩, q⟩
def PotAt (H : Hp) (a : Addr) (n : Nat) : Prop := ∃ x y k : Int, H a = some (.lst [.int x, .int y, .int k]) ∧ 0 ≤ y ∧ y < 2 ^ 120 ∧ 0 ≤ k ∧ k + n ≤ 1000000
section
variable {H H' : Hp} {a p b : Addr} {n m : Nat} {o : HO}
theorem PotAt.st (h : PotAt H a n) : StAt H a n := by
  obtain ⟨x, y, k, h1, _, _, h2, h3⟩ := h
  exact ⟨x, y, k, h1, h2, h3⟩
theorem PotAt.mono (h : PotAt H a m) (l : n ≤ m) : PotAt H a n := by
  obtain ⟨x, y, k, h1, y0, y1, h2, h3⟩ := h
  exact ⟨x, y, k, h1, y0, y1, h2, by omega⟩
theorem PotAt.kt (h : PotAt H a n) (e : Fr1 a H H') : KT H H' := h.st.kt e
theorem PotAt.lst (h : PotAt H a n) : ∃ xs, H a = some (.lst xs) := h.st.lst
theorem PotAt.same (h : PotAt H a n) (e : Same H H') : PotAt H' a n := by
  obtain ⟨x, y, k, h1, h2⟩ := h
  exact ⟨x, y, k, e _ _ h1, h2⟩
theorem PotAt.fr (h : PotAt H a n) (e : Fr1 b H H') (ne : a ≠ b) : PotAt H' a n := by
  obtain ⟨x, y, k, h1, h2⟩ := h
  exact ⟨x, y, k, e _ _ ne h1, h2⟩
theorem PotAt.upd (h : PotAt H a n) (ne : a ≠ p) : PotAt (L2.upd H p o) a n := by
  obtain ⟨x, y, k, h1, h2⟩ := h
  exact ⟨x, y, k, by rw [upd_ne ne]; exact h1, h2⟩
theorem PotAt.ne (h : PotAt H a n) (e : H p = none) : a ≠ p := h.st.ne e
theorem PotAt.put (h : PotAt H a n) (e : H p = none) : PotAt (L2.upd H p o) a n := h.upd (h.ne e)
theorem PotAt.fr_new (S : PotAt H' a n) (f : Fr1 a H H') (h : H' p = none) : Fr1 a H (L2.upd H' p o) := f.upd (f.free (S.ne h).symm h)
end
section
variable {J : It} {n : Nat} {G : Hp → Prop} {Y : Nat → Hp → V → Hp → Prop}
theorem lc_f (w : Walk J n G Y) {g : TG} {tt : TT} {te : TE} {vs : List Nat} {σ : L2.St} {H1 : Hp} {D : Addr} {Qd : Hp → Prop} (f : Nat → Option PyData) (hn : n < 100000) (h0 : H1 D = none) (hG : ∀ H', Same H1 H' → G H')
    (hs : ∀ i x Hi Hj (Nx : V → Hp → Prop) (Ny : Hp → Prop), i < n → Same H1 Hi → Y i Hi x Hj → (∀ y H4 d, f i = some d → Td H4 y d → Same Hi H4 → Nx y H4) → (f i = none → ∀ H3, Same Hi H3 → Ny H3) →
      g x (wipe σ vs) Hj fun σ2 H2 => wipe σ2 vs = wipe σ vs ∧ tt σ2 H2 fun b H3 => if b = true then te σ2 H3 Nx else Ny H3)
    (hd : ∀ acc H', H' D = some (.lst acc) → TdAll H' acc ((List.range n).filterMap f) → acc.length ≤ n → Same H1 H' → Qd H') :
    ∃ W : Nat → Nat → Hp → Prop, (∃ m, W 0 m (upd H1 D (.lst []))) ∧ ∀ i m H, W i m H →
      (J.stop i H ∧ Qd H) ∨ (J.go i H ∧ ∃ Nx : Hp → Prop, (∀ H', Nx H' → ∃ m', m' < m ∧ W (i + 1) m' H') ∧ ∀ x H', J.yld i H x H' → g x (wipe σ vs) H' fun σ2 H2 => wipe σ2 vs = wipe σ vs ∧ tt σ2 H2 fun b H3 =>
        if b = true then te σ2 H3 fun y H4 => ∃ acc, H4 D = some (.lst acc) ∧ acc.length < sizeLine ∧ Nx (upd H4 D (.lst (acc ++ [y]))) else Nx H3) := by
  refine lc_it w (fun i Hi => ∃ acc, acc.length ≤ i ∧ Hi D = some (.lst acc) ∧ TdAll Hi acc ((List.range i).filterMap f) ∧ Same H1 Hi) ?_ ?_ ?_ ?_
  · exact ⟨[], Nat.le_refl _, upd_same, .nil, Same.upd (Same.refl _) h0⟩
  · rintro i Hi _ ⟨_, _, _, _, e⟩
    exact hG _ e
  · rintro i x Hi Hj hi ⟨acc, hl, hD, hT, e⟩ hy
    refine hs i x Hi Hj _ _ hi e hy (fun y H4 d hf ht e4 => ?_) fun hf H3 e3 => ?_
    · have k : KT H4 (upd H4 D (.lst (acc ++ [y]))) := (KT.refl H4).updL (e4 _ _ hD)
      refine ⟨acc, e4 _ _ hD, sizeLt (by omega), acc ++ [y], by rw [List.length_append]; exact Nat.succ_le_succ hl, upd_same, ?_, Same.upd (e.trans e4) h0⟩
      rw [List.range_succ, List.filterMap_append, List.filterMap_cons, hf]
      exact (hT.mono ((KT.of e4).trans k)).append (.cons (ht.mono k) .nil)
    · refine ⟨acc, by omega, e3 _ _ hD, ?_, e.trans e3⟩
      rw [List.range_succ, List.filterMap_append, List.filterMap_cons, hf]
      simpa using hT.mono (KT.of e3)
  · rintro Hn ⟨acc, hl, hD, hT, e⟩
    exact hd acc Hn hD hT hl e
theorem range_fm {α β : Type} (l : List α) (f : α → Option β) : (List.range l.length).filterMap (fun i => l[i]?.bind f) = l.filterMap f := by
  have h : ∀ k, k ≤ l.length → (List.range k).filterMap (fun i => l[i]?.bind f) = (l.take k).filterMap f := by
    intro k
    induction k with
    | zero => intro _; rfl
    | succ k ih =>
      intro hk
      rw [List.range_succ, List.filterMap_append, ih (by omega), List.take_succ_eq_append_getElem (by omega), List.filterMap_append]
      simp only [List.filterMap_cons, List.filterMap_nil, List.getElem?_eq_getElem (show k < l.length by omega), Option.bind_some]
  have := h l.length (Nat.le_refl _)
  rwa [List.take_length] at this
theorem range_map {α β : Type} (l : List α) (f : α → β) : (List.range l.length).filterMap (fun i => l[i]?.map f) = l.map f := by
  have h := range_fm l fun x => some (f x)
  rw [List.filterMap_eq_map'] at h
  rw [← h]
  have e : (fun i : Nat => l[i]?.map f) = fun i => l[i]?.bind fun x => some (f x) := by
    funext i
    cases l[i]? <;> rfl
  rw [e]
theorem walk_enumT {K : PySem.W.Frag} {a : Addr} {xs : List V} : Walk (IteT K a) xs.length (fun H => SqT K H a xs) (YPair (fun i => some (.int (i : Nat))) (fun i => xs[i]?)) := by
  refine ⟨fun i _ hi q => ⟨xs, xs[i], q, by simp [hi]⟩, fun _ q => ⟨xs, q, Nat.le_refl _⟩, fun i H v H' _ q y => ?_⟩
  obtain ⟨T, x, h1, h2, h3, h4⟩ := y
  exact ⟨T, .int (i : Nat), x, h1, h2, h3, rfl, h4 xs q⟩
end
inductive Step where
  | load (n m : Str) (b : Bool)
  | col (w n c : Str)
deriving DecidableEq
def Step.d : Step → PyData
  | .load n m b => .tuple [.str "load", .str n, .str m, .bool b]
  | .col w n c => .tuple [.str w, .str n, .str c]
def Step.vs : Step → List V
  | .load n m b => [.str "load", .str n, .str m, .bl b]
  | .col w n c => [.str w, .str n, .str c]
def Step.w : Step → Str
  | .load _ _ _ => "load"
  | .col w _ _ => w
def Step.t : Step → Str
  | .load n _ _ => n
  | .col _ n _ => n
def Step.Ok (pl : Plan) : Step → Prop
  | .load n m _ => n ∈ pl.map (·.1) ∧ m ∈ [("raw" : Str), "blank", "refuse"]
  | .col w n c => w ∈ [("patch" : Str), "fill", "sweep"] ∧ ∃ e ∈ pl, e.1 = n ∧ c ∈ e.2.2.map (·.1)
theorem Step.td {H : Hp} {v : V} : ∀ {s : Step}, Td H v s.d → ∃ t, v = .ref t ∧ H t = some (.tup s.vs)
  | .load n m b, h => by
    obtain ⟨t, xs, rfl, ht, hx⟩ := h.tup_inv
    cases hx with
    | cons h0 r => cases r with
      | cons h1 r => cases r with
        | cons h2 r => cases r with
          | cons h3 r => cases r with
            | nil =>
              rw [h0.str_inv, h1.str_inv, h2.str_inv, h3.bl_inv] at ht
              exact ⟨t, rfl, ht⟩
  | .col w n c, h => by
    obtain ⟨t, xs, rfl, ht, hx⟩ := h.tup_inv
    cases hx with
    | cons h0 r => cases r with
      | cons h1 r => cases r with
        | cons h2 r => cases r with
          | nil =>
            rw [h0.str_inv, h1.str_inv, h2.str_inv] at ht
            exact ⟨t, rfl, ht⟩
theorem Step.of {H : Hp} {t : Addr} : ∀ {s : Step}, H t = some (.tup s.vs) → Td H (.ref t) s.d
  | .load _ _ _, h => .tup h (.cons (.str _) (.cons (.str _) (.cons (.str _) (.cons (.bl _) .nil))))
  | .col _ _ _, h => .tup h (.cons (.str _) (.cons (.str _) (.cons (.str _) .nil)))
theorem Step.Ok.d {pl : Plan} : ∀ {s : Step}, s.Ok pl → StepD pl s.d
  | .load n m b, h => .load n m b h.1 h.2
  | .col w n c, h => .col w n c h.1 h.2
theorem StepD.ex {pl : Plan} {d : PyData} (h : StepD pl d) : ∃ s : Step, d = s.d ∧ s.Ok pl := by
  cases h with
  | load n m b hn hm => exact ⟨.load n m b, rfl, hn, hm⟩
  | col w n c hw hc => exact ⟨.col w n c, rfl, hw, hc⟩
theorem steps_ex {pl : Plan} : ∀ {ds : List PyData}, (∀ d ∈ ds, StepD pl d) → ∃ ss : List Step, ds = ss.map Step.d ∧ ∀ s ∈ ss, s.Ok pl
  | [], _ => ⟨[], rfl, by simp⟩
  | d :: r, h => by
    obtain ⟨s, rfl, hs⟩ := (h d List.mem_cons_self).ex
    obtain ⟨ss, rfl, hss⟩ := steps_ex fun x hx => h x (List.mem_cons_of_mem _ hx)
    exact ⟨s :: ss, rfl, fun x hx => by
      rcases List.mem_cons.mp hx with rfl | hx
      · exact hs
      · exact hss x hx⟩
theorem steps_d {pl : Plan} {ss : List Step} (h : ∀ s ∈ ss, s.Ok pl) : ∀ d ∈ ss.map Step.d, StepD pl d := by
  intro d hd
  obtain ⟨s, hs, rfl⟩ := List.mem_map.mp hd
  exact (h s hs).d
end My

namespace My
open PySem PySem.Spec PyProof.Rows L2
structure DefN (K : PySem.W.Frag) (mg : Str → Option Value) (y x : Str) (st : Stmt) (ps : List Str) : Prop where
  ex : ∃ f fd, Fun K x x st f fd ∧ mg y = some (.ref f) ∧ Binds K fd ps []
section
variable {P : Program} {w : World} {K : PySem.W.Frag} {mg : Str → Option Value} {base : Heap} {k : Nat} {x y m q : Str} {C f : Addr} {sp : Sp} {N ps : List Str} {st : Stmt} {h : Heap} {oc : Value} {od an : Option Addr} {osl : Array (Option Value)} {kV doc pm cdv ct : Value}
theorem DefN.ok (D : DefN K mg y x st ps) (S : FnScope N ps (defScope st)) (len : ∀ vs H Q E, sp vs H Q E → vs.length = ps.length) (b : BodyOk P w K mg base k N x st sp) : CallOk P w K mg base (k + 1) y sp := by
  obtain ⟨f, fd, F, hm, hb⟩ := D.ex
  exact ⟨f, fd, ps, F.ok S len (fun cdv A outer s H vs Q E hr h => b f cdv A outer s H vs Q E hr h), hm, F.kp, hb⟩
theorem defN (X : K.In h) (G : h.Ns mainGlobals mg) (b : ∀ (kV doc pm : Value) (an : Option Addr) (cdv ct : Value) (us : List Value), us.length = ps.length → bindArgs (PySem.W.fnOf x x (defArgs st) (defBody st) (defScope st) .none kV doc pm an cdv ct) ⟨us, []⟩ = pure (ps.zip us))
    (a : PySem.W.nsIn K mainGlobals y = some (some (.ref f))) (l : K.lookup f = some ⟨oc, od, .func (PySem.W.fnOf x x (defArgs st) (defBody st) (defScope st) .none kV doc pm an cdv ct), osl⟩)
    (c : PySem.W.codeIn K cdv x = true) (k : PySem.W.keepIn K (.ref f) = true) : DefN K mg y x st ps :=
  ⟨f, _, fun_mk (st := st) l c k, PySem.W.mg_of X G a, (fun_mk (st := st) l c k).binds b⟩
end
structure CallKC (P : Program) (w : World) (K : PySem.W.Frag) (mg : Str → Option Value) (base : Heap) (k : Nat) (x : Str) (ks : List Str) (gV : List V → List V → List V) (sp : Sp) : Prop where
  ex : ∃ f fd ps g, FnOk P w K mg base CX0 k f fd ps sp ∧ mg x = some (.ref f) ∧ PySem.W.keepIn K (.ref f) = true ∧ KBn K fd ps 0 ks g gV
structure CallKX (P : Program) (w : World) (K : PySem.W.Frag) (mg : Str → Option Value) (base : Heap) (k : Nat) (x : Str) (ks : List Str) (gV : List V → List V → List V) (sp : Sp) : Prop where
  ex : ∃ f fd ps g, FnOk P w K mg base (L2.CX P w) k f fd ps sp ∧ mg x = some (.ref f) ∧ PySem.W.keepIn K (.ref f) = true ∧ KBn K fd ps 0 ks g gV
section
variable {P : Program} {w : World} {K : PySem.W.Frag} {mg : Str → Option Value} {base : Heap} {k : Nat} {x : Str} {sp : Sp} {N ps ks : List Str} {st : Stmt}
theorem DefAt.okKC (D : DefAt K mg x st ps) (S : FnScope N ps (defScope st)) (len : ∀ vs H Q E, sp vs H Q E → vs.length = ps.length) (b : BodyOk P w K mg base k N x st sp)
    (g : {α : Type} → List α → List α → List α) (hrel : ∀ {vs zs : List V} {us ws : List Value}, Vals vs us → Vals zs ws → Vals (g vs zs) (g us ws))
    (h : ∀ (kV doc pm : Value) (an : Option Addr) (cdv ct : Value) (us ws : List Value), us.length = 0 → ws.length = ks.length → bindArgs (PySem.W.fnOf x x (defArgs st) (defBody st) (defScope st) .none kV doc pm an cdv ct) ⟨us, ks.zip ws⟩ = pure (ps.zip (g us ws))) :
    CallKC P w K mg base (k + 1) x ks (fun vs zs => g vs zs) sp := by
  obtain ⟨f, fd, F, hm, hb⟩ := D.ex
  refine ⟨f, fd, ps, fun us ws => g us ws, F.ok S len (fun cdv A outer s H vs Q E hr h => b f cdv A outer s H vs Q E hr h), hm, F.kp, ?_⟩
  obtain ⟨oc, od, kV, doc, pm, an, cdv, ct, osl, rfl, lk, hcd⟩ := F.ex
  exact ⟨fun s us ws _ l1 l2 => .of_eq (h kV doc pm an cdv ct us ws l1 l2), fun r1 r2 => hrel r1 r2⟩
theorem DefAt.okKX (D : DefAt K mg x st ps) (S : FnScope N ps (defScope st)) (len : ∀ vs H Q E, sp vs H Q E → vs.length = ps.length) (b : BodyX P w K mg base k N x st sp)
    (g : {α : Type} → List α → List α → List α) (hrel : ∀ {vs zs : List V} {us ws : List Value}, Vals vs us → Vals zs ws → Vals (g vs zs) (g us ws))
    (h : ∀ (kV doc pm : Value) (an : Option Addr) (cdv ct : Value) (us ws : List Value), us.length = 0 → ws.length = ks.length → bindArgs (PySem.W.fnOf x x (defArgs st) (defBody st) (defScope st) .none kV doc pm an cdv ct) ⟨us, ks.zip ws⟩ = pure (ps.zip (g us ws))) :
    CallKX P w K mg base (k + 1) x ks (fun vs zs => g vs zs) sp := by
  obtain ⟨f, fd, F, hm, hb⟩ := D.ex
  refine ⟨f, fd, ps, fun us ws => g us ws, F.okX S len (fun cdv A outer s H vs Q E hr h => b f cdv A outer s H vs Q E hr h), hm, F.kp, ?_⟩
  obtain ⟨oc, od, kV, doc, pm, an, cdv, ct, osl, rfl, lk, hcd⟩ := F.ex
  exact ⟨fun s us ws _ l1 l2 => .of_eq (h kV doc pm an cdv ct us ws l1 l2), fun r1 r2 => hrel r1 r2⟩
end
section
variable {X : Cx} {k : Nat} {x : Str} {sp : Sp} {p pos : Pos} {t : TA} {W : WX} {ks : List Str} {gV : List V → List V → List V} {kws : List Keyword}
def tCallKN (sp : Sp) (gV : List V → List V → List V) (nk : Nat) (E : L2.St → XK) (t : TA) : TE := fun σ H Q => t σ H fun zs H1 => zs.length = nk ∧ sp (gV [] zs) H1 Q (E σ)
theorem pe_callKX (G : CallKX X.prog X.w X.K X.mg X.base k x ks gV sp) (hr : Room k X.A) (tk : Takes X W) (hkw : PK X kws t) (hg : Gl X x := by rfl) (hdb : (x == ("__debug__" : Str)) = false := by decide)
    (hall : (backToKw pos (keywordEach kws X.env)).all (·.1.isSome) = true := by rfl) (hks : (backToKw pos (keywordEach kws X.env)).filterMap (·.1) = ks := by rfl)
    (hpl : ((backTo pos (starEach [] X.env)).any (·.1) || (backToKw pos (keywordEach kws X.env)).any (·.1.isNone)) = false := by rfl) :
    PE X (.Call (.Name x p) [] kws pos) (tCallKN sp gV ks.length (WE W) t) := by
  obtain ⟨f, fd, ps, g, F, hm, hk, hb⟩ := G.ex
  refine ⟨fun pins s σ H Q I h => ?_⟩
  refine wpAny_Call_Name_kw (ld_glob I hg hm ?_ hdb)
  refine PySem.W.callWith_KW0 (first := []) (h₀ := X.base) I.ok.mod.kin hk hall ?_ hpl
  refine thn (hkw.run pos pins _ σ H _ I h) fun ws s2 ⟨zs, H2, I2, rz, lz, q2⟩ => ⟨I2.kIn, ?_⟩
  rw [hks]
  have e2 : ws.length = ks.length := rz.length.symm.trans lz
  refine wpAny_call (codeAny_mono (F.run X.A X.stack s2 H2 ⟨[], ks.zip ws⟩ (g [] ws) _ Q (WE W σ) hr I2.env0 (hb.to s2 [] ws I2.kIn rfl e2) (hb.rel .nil rz) q2) fun r s' hq => ?_)
  cases r with
  | error e => exact passAt tk σ pins _ _ e s' I2 hq
  | ok fl =>
    cases fl with
    | ret u => exact I2.after hq
    | next => exact False.elim hq
    | brk => exact False.elim hq
    | cont => exact False.elim hq
theorem pe_callKC (G : CallKC X.prog X.w X.K X.mg X.base k x ks gV sp) (hr : Room k X.A) (hkw : PK X kws t) (hg : Gl X x := by rfl) (hdb : (x == ("__debug__" : Str)) = false := by decide)
    (hall : (backToKw pos (keywordEach kws X.env)).all (·.1.isSome) = true := by rfl) (hks : (backToKw pos (keywordEach kws X.env)).filterMap (·.1) = ks := by rfl)
    (hpl : ((backTo pos (starEach [] X.env)).any (·.1) || (backToKw pos (keywordEach kws X.env)).any (·.1.isNone)) = false := by rfl) :
    PE X (.Call (.Name x p) [] kws pos) (tCallKN sp gV ks.length (fun _ => E0) t) := by
  obtain ⟨f, fd, ps, g, F, hm, hk, hb⟩ := G.ex
  refine ⟨fun pins s σ H Q I h => ?_⟩
  refine wpAny_Call_Name_kw (ld_glob I hg hm ?_ hdb)
  refine PySem.W.callWith_KW0 (first := []) (h₀ := X.base) I.ok.mod.kin hk hall ?_ hpl
  refine thn (hkw.run pos pins _ σ H _ I h) fun ws s2 ⟨zs, H2, I2, rz, lz, q2⟩ => ⟨I2.kIn, ?_⟩
  rw [hks]
  have e2 : ws.length = ks.length := rz.length.symm.trans lz
  refine wpAny_call (codeAny_mono (F.run X.A X.stack s2 H2 ⟨[], ks.zip ws⟩ (g [] ws) _ Q E0 hr I2.env0 (hb.to s2 [] ws I2.kIn rfl e2) (hb.rel .nil rz) q2) fun r s' hq => ?_)
  cases r with
  | error e => exact pass0 pins σ H2 s2 e s' I2 hq
  | ok fl =>
    cases fl with
    | ret u => exact I2.after hq
    | next => exact False.elim hq
    | brk => exact False.elim hq
    | cont => exact False.elim hq
end
section
variable {X : Cx}
def tJoined (ts : List TE) : TE := fun σ H Q => tJs ts Str.empty σ H fun out H1 => Q (.str out) H1
theorem pe_joinedN {v1 v2 : Expr} {rest : List Expr} {ts : List TE} {pos : Pos} (h : PJ X (v1 :: v2 :: rest) ts) : PE X (.JoinedStr (v1 :: v2 :: rest) pos) (tJoined ts) := pe_joined h
end
def spaceS : Str := " "
def lineS : Str := "\n"
def arrowS : Str := ">"
def semiS : Str := "; "
theorem tl_space : TL.tl (" " : Str) = [32] := by decide +kernel
theorem tl_line : TL.tl ("\n" : Str) = [10] := by decide +kernel
theorem tl_arrow : TL.tl (">" : Str) = [62] := by decide +kernel
theorem tl_semi : TL.tl ("; " : Str) = [59, 32] := by decide +kernel
theorem Nm.not {x : Str} (h : Nm x) {c : Nat} (hc : c < 97) : c ∉ TL.tl x := fun m => by
  have := h.az c m
  omega
theorem join_nil (y : Str) : Txt.join y [] = (Str.empty : Str) := by rw [TL.join_eq]; rfl
theorem join_one (y x : Str) : Txt.join y [x] = x := by rw [TL.join_eq]; rfl
theorem str_assoc (a b c : Str) : a ++ b ++ c = a ++ (b ++ c) := cd_ext (by rw [cd_app, cd_app, cd_app, cd_app, List.append_assoc])
theorem join_cons (y x z : Str) (r : List Str) : Txt.join y (x :: z :: r) = x ++ y ++ Txt.join y (z :: r) := by
  rw [TL.join_eq, TL.join_eq]
  rfl
theorem join_snoc (y w : Str) : ∀ {ws : List Str}, ws ≠ [] → Txt.join y (ws ++ [w]) = Txt.join y ws ++ y ++ w
  | [], h => absurd rfl h
  | [x], _ => by
    show Txt.join y [x, w] = _
    rw [join_cons, join_one, join_one]
  | x :: z :: r, _ => by
    show Txt.join y (x :: z :: (r ++ [w])) = _
    rw [join_cons, join_cons, show z :: (r ++ [w]) = (z :: r) ++ [w] from rfl, join_snoc y w (by simp)]
    exact cd_ext (by simp only [cd_app, List.append_assoc])
theorem join_len (y : Str) : ∀ ws : List Str, (Txt.join y ws).length ≤ (ws.map (·.length)).sum + ws.length * y.length
  | [] => by rw [join_nil]; exact Nat.zero_le _
  | [x] => by rw [join_one]; simp
  | x :: z :: r => by
    have ih := join_len y (z :: r)
    rw [join_cons]
    have l1 : (x ++ y ++ Txt.join y (z :: r)).length = x.length + y.length + (Txt.join y (z :: r)).length := by
      rw [cd_len, cd_app, cd_app, List.length_append, List.length_append, ← cd_len, ← cd_len, ← cd_len]
    rw [l1]
    simp only [List.map_cons, List.sum_cons, List.length_cons] at ih ⊢
    have : (r.length + 1 + 1) * y.length = (r.length + 1) * y.length + y.length := by rw [Nat.succ_mul]
    omega
def refS (r : Ref) : Str := r.1 ++ (">" : Str) ++ r.2
def flagS (b : Bool) : Str := if b then "unique" else "any"
def wordsS (e : Ent) : List Str := e.1 :: flagS e.2.1 :: e.2.2.map refS
def entS (e : Ent) : Str := Txt.join " " (wordsS e)
def planS (pl : Plan) : Str := Txt.join "\n" (pl.map entS)
theorem tl_any : TL.tl ("any" : Str) = [97, 110, 121] := by decide +kernel
theorem tl_unique : TL.tl ("unique" : Str) = [117, 110, 105, 113, 117, 101] := by decide +kernel
theorem flagS_not (b : Bool) {c : Nat} (hc : c < 97) : c ∉ TL.tl (flagS b) := fun m => by
  cases b with
  | true =>
    rw [show flagS true = "unique" from rfl, tl_unique] at m
    simp only [List.mem_cons, List.not_mem_nil, or_false] at m
    omega
  | false =>
    rw [show flagS false = "any" from rfl, tl_any] at m
    simp only [List.mem_cons, List.not_mem_nil, or_false] at m
    omega
theorem tl_refS (r : Ref) : TL.tl (refS r) = TL.tl r.1 ++ ([62] ++ TL.tl r.2) := by
  unfold refS
  rw [TL.tl_append, TL.tl_append, tl_arrow, List.append_assoc]
theorem refS_not {r : Ref} (h1 : Nm r.1) (h2 : Nm r.2) {c : Nat} (hc : c < 62) : c ∉ TL.tl (refS r) := fun m => by
  rw [tl_refS] at m
  rcases List.mem_append.mp m with m | m
  · exact h1.not (by omega) m
  · rcases List.mem_append.mp m with m | m
    · rw [List.mem_singleton.mp m] at hc
      omega
    · exact h2.not (by omega) m
theorem refS_join (r : Ref) : refS r = Txt.join ">" [r.1, r.2] := by
  rw [join_cons, join_one]
  rfl
theorem refS_split {r : Ref} (h1 : Nm r.1) (h2 : Nm r.2) : Txt.split (refS r) ">" = [r.1, r.2] := by
  rw [refS_join]
  refine TL.split_join tl_arrow (by decide +kernel) (by simp) fun p hp => ?_
  simp only [List.mem_cons, List.not_mem_nil, or_false] at hp
  rcases hp with rfl | rfl
  · exact h1.not (by decide)
  · exact h2.not (by decide)
theorem mem_join {y : Str} {c : Nat} : ∀ {ws : List Str}, c ∈ TL.tl (Txt.join y ws) → c ∈ TL.tl y ∨ ∃ w ∈ ws, c ∈ TL.tl w
  | [], h => by
    rw [join_nil] at h
    exact absurd h (by simp [Str.empty])
  | [x], h => by
    rw [join_one] at h
    exact .inr ⟨x, by simp, h⟩
  | x :: z :: r, h => by
    rw [join_cons, TL.tl_append, TL.tl_append] at h
    rcases List.mem_append.mp h with h | h
    · rcases List.mem_append.mp h with h | h
      · exact .inr ⟨x, by simp, h⟩
      · exact .inl h
    · rcases mem_join h with h | ⟨w, hw, h⟩
      · exact .inl h
      · exact .inr ⟨w, List.mem_cons_of_mem _ hw, h⟩
theorem wordsS_not {e : Ent} (hn : Nm e.1) (hr : ∀ r ∈ e.2.2, Nm r.1 ∧ Nm r.2) {c : Nat} (hc : c < 62) : ∀ w ∈ wordsS e, c ∉ TL.tl w := fun w hw => by
  simp only [wordsS, List.mem_cons, List.mem_map] at hw
  rcases hw with rfl | rfl | ⟨r, hr', rfl⟩
  · exact hn.not (by omega)
  · exact flagS_not _ (by omega)
  · exact refS_not (hr r hr').1 (hr r hr').2 hc
theorem entS_split {e : Ent} (hn : Nm e.1) (hr : ∀ r ∈ e.2.2, Nm r.1 ∧ Nm r.2) : Txt.split (entS e) " " = wordsS e :=
  TL.split_join tl_space (by decide +kernel) (by simp [wordsS]) (wordsS_not hn hr (by decide))
theorem Good.two {pl : Plan} (g : Good pl) {e : Ent} (he : e ∈ pl) : ∀ r ∈ e.2.2, Nm r.1 ∧ Nm r.2 := fun r hr => ⟨(g.refs e he).nm r hr, g.toNm he hr⟩
theorem entS_not {e : Ent} (hn : Nm e.1) (hr : ∀ r ∈ e.2.2, Nm r.1 ∧ Nm r.2) : 10 ∉ TL.tl (entS e) := fun m => by
  rcases mem_join m with m | ⟨w, hw, m⟩
  · rw [tl_space] at m
    simp at m
  · exact wordsS_not hn hr (by decide) w hw m
theorem planS_split {pl : Plan} (g : Good pl) : Txt.split (planS pl) "\n" = pl.map entS := by
  refine TL.split_join tl_line (by decide +kernel) (fun z => ?_) fun p hp => ?_
  · have h1 := congrArg List.length z
    have h2 := g.lo
    rw [List.length_map, List.length_nil] at h1
    omega
  · obtain ⟨e, he, rfl⟩ := List.mem_map.mp hp
    exact entS_not (g.nm e he) (g.two he)
theorem str_len (a b : Str) : (a ++ b).length = a.length + b.length := by rw [cd_len, cd_app, List.length_append, ← cd_len, ← cd_len]
theorem len_space : (" " : Str).length = 1 := by decide +kernel
theorem len_line : ("\n" : Str).length = 1 := by decide +kernel
theorem len_arrow : (">" : Str).length = 1 := by decide +kernel
theorem flagS_len (b : Bool) : (flagS b).length ≤ 6 := by cases b <;> decide +kernel
theorem refS_len {r : Ref} (h1 : Nm r.1) (h2 : Nm r.2) : (refS r).length ≤ 17 := by
  have := h1.hi
  have := h2.hi
  unfold refS
  rw [str_len, str_len, len_arrow]
  omega
theorem sum_le {α : Type} (f : α → Nat) (m : Nat) : ∀ {l : List α}, (∀ x ∈ l, f x ≤ m) → (l.map f).sum ≤ l.length * m
  | [], _ => by simp
  | x :: r, h => by
    have h1 := h x List.mem_cons_self
    have h2 := sum_le f m (l := r) fun y hy => h y (List.mem_cons_of_mem _ hy)
    rw [List.map_cons, List.sum_cons, List.length_cons, Nat.succ_mul]
    omega
theorem wordsS_each {e : Ent} (hn : Nm e.1) (hr : ∀ r ∈ e.2.2, Nm r.1 ∧ Nm r.2) : ∀ w ∈ wordsS e, w.length ≤ 17 := fun w hw => by
  simp only [wordsS, List.mem_cons, List.mem_map] at hw
  rcases hw with rfl | rfl | ⟨r, hr', rfl⟩
  · have := hn.hi; omega
  · have := flagS_len e.2.1; omega
  · exact refS_len (hr r hr').1 (hr r hr').2
theorem wordsS_len (e : Ent) : (wordsS e).length = e.2.2.length + 2 := by simp [wordsS]
theorem wordsS_sum {e : Ent} (hn : Nm e.1) (hr : ∀ r ∈ e.2.2, Nm r.1 ∧ Nm r.2) (h3 : e.2.2.length ≤ 3) : ((wordsS e).map (·.length)).sum + (wordsS e).length * 1 ≤ 90 := by
  have := sum_le (fun w : Str => w.length) 17 (wordsS_each hn hr)
  have := wordsS_len e
  have h5 : (wordsS e).length ≤ 5 := by omega
  have : (wordsS e).length * 17 ≤ 5 * 17 := Nat.mul_le_mul_right _ h5
  omega
theorem entS_len {e : Ent} (hn : Nm e.1) (hr : ∀ r ∈ e.2.2, Nm r.1 ∧ Nm r.2) (h3 : e.2.2.length ≤ 3) : (entS e).length ≤ 90 := by
  have h1 := join_len " " (wordsS e)
  have h2 := wordsS_sum hn hr h3
  rw [len_space] at h1
  unfold entS
  omega
theorem planS_sum {pl : Plan} (g : Good pl) : ((pl.map entS).map (·.length)).sum + (pl.map entS).length * 1 ≤ 460 := by
  have h1 := sum_le (fun w : Str => w.length) 90 (l := pl.map entS) fun w hw => by
    obtain ⟨e, he, rfl⟩ := List.mem_map.mp hw
    exact entS_len (g.nm e he) (g.two he) (g.refs e he).len
  have hl : (pl.map entS).length ≤ 5 := by rw [List.length_map]; exact g.hi
  have : (pl.map entS).length * 90 ≤ 5 * 90 := Nat.mul_le_mul_right _ hl
  omega
theorem planS_len {pl : Plan} (g : Good pl) : (planS pl).length ≤ 460 := by
  have h1 := join_len "\n" (pl.map entS)
  have h2 := planS_sum g
  rw [len_line] at h1
  unfold planS
  omega
theorem spl_len {S : List Nat} : ∀ (l : List Nat) (k : Nat) (acc p : List Nat), p ∈ TL.spl S k acc l → p.length ≤ acc.length + l.length
  | [], k, acc, p, h => by
    rw [TL.spl_nil] at h
    rw [List.mem_singleton.mp h]
    exact Nat.le_add_right _ _
  | c :: r, 0, acc, p, h => by
    by_cases e : TL.pre S (c :: r) = true
    · rw [TL.spl_hit e] at h
      rcases List.mem_cons.mp h with rfl | h
      · exact Nat.le_add_right _ _
      · have := spl_len r _ _ _ h
        rw [List.length_nil] at this
        rw [List.length_cons]
        omega
    · rw [TL.spl_miss (by simpa using e)] at h
      have := spl_len r _ _ _ h
      rw [List.length_append, List.length_singleton] at this
      rw [List.length_cons]
      omega
  | c :: r, k + 1, acc, p, h => by
    have := spl_len r k acc p h
    rw [List.length_cons]
    omega
theorem spl_num {S : List Nat} : ∀ (l : List Nat) (k : Nat) (acc : List Nat), (TL.spl S k acc l).length ≤ l.length + 1
  | [], k, acc => by
    rw [TL.spl_nil]
    exact Nat.le_refl _
  | c :: r, 0, acc => by
    by_cases e : TL.pre S (c :: r) = true
    · rw [TL.spl_hit e, List.length_cons, List.length_cons]
      have := spl_num (S := S) r (S.length - 1) []
      omega
    · rw [TL.spl_miss (by simpa using e), List.length_cons]
      have := spl_num (S := S) r 0 (acc ++ [c])
      omega
  | c :: r, k + 1, acc => by
    have : TL.spl S (k + 1) acc (c :: r) = TL.spl S k acc r := rfl
    rw [this, List.length_cons]
    have := spl_num (S := S) r k acc
    omega
theorem spl_pos {S : List Nat} : ∀ (l : List Nat) (k : Nat) (acc : List Nat), TL.spl S k acc l ≠ []
  | [], k, acc => by
    rw [TL.spl_nil]
    simp
  | c :: r, 0, acc => by
    by_cases e : TL.pre S (c :: r) = true
    · rw [TL.spl_hit e]
      simp
    · rw [TL.spl_miss (by simpa using e)]
      exact spl_pos r 0 _
  | c :: r, k + 1, acc => spl_pos r k acc
structure Sep (y : Str) : Prop where
  ne : TL.tl y ≠ []
  lat : y.cps.all (· < 256) = true
theorem sep_space : Sep " " := ⟨by rw [tl_space]; simp, by decide +kernel⟩
theorem sep_line : Sep "\n" := ⟨by rw [tl_line]; simp, by decide +kernel⟩
theorem sep_arrow : Sep ">" := ⟨by rw [tl_arrow]; simp, by decide +kernel⟩
theorem sep_semi : Sep "; " := ⟨by rw [tl_semi]; simp, by decide +kernel⟩
theorem Sep.len {y : Str} (h : Sep y) : (y.length == 0) = false := by
  cases e : (y.length == 0) with
  | false => rfl
  | true =>
    have := eq_of_beq e
    rw [TL.len_tl] at this
    exact absurd (List.eq_nil_of_length_eq_zero this) h.ne
theorem part_len {x y p : Str} (s : Sep y) (h : p ∈ Txt.split x y) : p.length ≤ x.length := by
  have h2 : TL.tl p ∈ (Txt.split x y).map TL.tl := List.mem_map.mpr ⟨p, h, rfl⟩
  rw [TL.split_spl x y s.ne (TL.kind_ok s.lat)] at h2
  have := spl_len _ _ _ _ h2
  rw [TL.len_tl, TL.len_tl]
  simpa using this
theorem part_num {x y : Str} (s : Sep y) : (Txt.split x y).length ≤ x.length + 1 := by
  have h := congrArg List.length (TL.split_spl x y s.ne (TL.kind_ok s.lat))
  rw [List.length_map] at h
  rw [h, TL.len_tl]
  exact spl_num _ _ _
theorem part_pos {x y : Str} (s : Sep y) : Txt.split x y ≠ [] := fun z => by
  have h := TL.split_spl x y s.ne (TL.kind_ok s.lat)
  rw [z] at h
  exact spl_pos _ _ _ h.symm
def refTB (w : Str) : Bool := decide ((Txt.split w ">").length = 2) && (Txt.split w ">").all fun p => nameB (.str p)
def tabTB : List Str → Bool
  | n :: f :: r => nameB (.str n) && (decide (f ∈ [("unique" : Str), "any"]) && r.all refTB)
  | _ => false
def refOf (w : Str) : Ref := match Txt.split w ">" with
  | a :: b :: _ => (a, b)
  | _ => ("", "")
def entOf : List Str → Ent
  | n :: f :: r => (n, decide (f = "unique"), r.map refOf)
  | _ => ("", false, [])
theorem refTB_inv {w : Str} (h : refTB w = true) : Txt.split w ">" = [(refOf w).1, (refOf w).2] ∧ Nm (refOf w).1 ∧ Nm (refOf w).2 := by
  unfold refTB at h
  simp only [Bool.and_eq_true, decide_eq_true_eq, List.all_eq_true] at h
  obtain ⟨h1, h2⟩ := h
  unfold refOf
  match e : Txt.split w ">", h1, h2 with
  | [a, b], _, h2 =>
    refine ⟨rfl, ?_, ?_⟩
    · obtain ⟨x, ex, hx⟩ := nameB_inv (h2 a (by simp))
      cases ex
      exact hx
    · obtain ⟨x, ex, hx⟩ := nameB_inv (h2 b (by simp))
      cases ex
      exact hx
theorem refTB_ref {r : Ref} (h1 : Nm r.1) (h2 : Nm r.2) : refTB (refS r) = true ∧ refOf (refS r) = r := by
  have e := refS_split h1 h2
  refine ⟨?_, ?_⟩
  · unfold refTB
    rw [e]
    simp [nameB_nm h1, nameB_nm h2]
  · unfold refOf
    rw [e]
theorem flagS_mem (b : Bool) : flagS b ∈ [("unique" : Str), "any"] := by cases b <;> simp [flagS]
theorem flagS_dec (b : Bool) : decide (flagS b = "unique") = b := by cases b <;> decide +kernel
theorem tabTB_ent {e : Ent} (hn : Nm e.1) (hr : ∀ r ∈ e.2.2, Nm r.1 ∧ Nm r.2) : tabTB (wordsS e) = true ∧ entOf (wordsS e) = e := by
  refine ⟨?_, ?_⟩
  · show (nameB (.str e.1) && (decide (flagS e.2.1 ∈ [("unique" : Str), "any"]) && (e.2.2.map refS).all refTB)) = true
    rw [nameB_nm hn, decide_eq_true (flagS_mem _)]
    simp only [Bool.true_and, List.all_eq_true]
    intro w hw
    obtain ⟨r, hr', rfl⟩ := List.mem_map.mp hw
    exact (refTB_ref (hr r hr').1 (hr r hr').2).1
  · show (e.1, decide (flagS e.2.1 = "unique"), (e.2.2.map refS).map refOf) = e
    rw [flagS_dec, List.map_map]
    have : (e.2.2.map (refOf ∘ refS)) = e.2.2 := by
      refine (List.map_congr_left fun r hr' => ?_).trans (List.map_id _)
      exact (refTB_ref (hr r hr').1 (hr r hr').2).2
    rw [this]
theorem tabTB_two {ws : List Str} (h : tabTB ws = true) : ∃ n f r, ws = n :: f :: r ∧ Nm n ∧ f ∈ [("unique" : Str), "any"] ∧ ∀ w ∈ r, refTB w = true := by
  match ws, h with
  | n :: f :: r, h =>
    unfold tabTB at h
    simp only [Bool.and_eq_true, decide_eq_true_eq, List.all_eq_true] at h
    obtain ⟨x, ex, hx⟩ := nameB_inv h.1
    cases ex
    exact ⟨n, f, r, rfl, hx, h.2.1, h.2.2⟩
def badT : Nat → List Str → Option Nat
  | _, [] => none
  | i, l :: r => if tabTB (Txt.split l " ") = true then badT (i + 1) r else some i
def badL (x : Str) : Option Nat := badT 0 (Txt.split x "\n")
def plOf (x : Str) : Plan := (Txt.split x "\n").map fun l => entOf (Txt.split l " ")
theorem badT_all : ∀ {ls : List Str} {i : Nat}, (∀ l ∈ ls, tabTB (Txt.split l " ") = true) → badT i ls = none
  | [], _, _ => rfl
  | l :: r, i, h => by
    unfold badT
    rw [if_pos (h l List.mem_cons_self)]
    exact badT_all fun x hx => h x (List.mem_cons_of_mem _ hx)
theorem badT_none : ∀ {ls : List Str} {i : Nat}, badT i ls = none → ∀ l ∈ ls, tabTB (Txt.split l " ") = true
  | [], _, _, l, hl => by cases hl
  | a :: r, i, h, l, hl => by
    unfold badT at h
    by_cases c : tabTB (Txt.split a " ") = true
    · rw [if_pos c] at h
      rcases List.mem_cons.mp hl with rfl | hl
      · exact c
      · exact badT_none h l hl
    · rw [if_neg c] at h
      cases h
theorem badT_at {ls : List Str} {i : Nat} {l : Str} (h : ls[i]? = some l) : badT i (ls.drop i) = if tabTB (Txt.split l " ") = true then badT (i + 1) (ls.drop (i + 1)) else some i := by
  obtain ⟨hl, e⟩ := List.getElem?_eq_some_iff.mp h
  rw [List.drop_eq_getElem_cons hl, e]
  rfl
theorem badL_plan {pl : Plan} (g : Good pl) : badL (planS pl) = none := by
  unfold badL
  rw [planS_split g]
  refine badT_all fun l hl => ?_
  obtain ⟨e, he, rfl⟩ := List.mem_map.mp hl
  rw [entS_split (g.nm e he) (g.two he)]
  exact (tabTB_ent (g.nm e he) (g.two he)).1
theorem plOf_plan {pl : Plan} (g : Good pl) : plOf (planS pl) = pl := by
  unfold plOf
  rw [planS_split g, List.map_map]
  refine (List.map_congr_left fun e he => ?_).trans (List.map_id _)
  show entOf (Txt.split (entS e) " ") = e
  rw [entS_split (g.nm e he) (g.two he)]
  exact (tabTB_ent (g.nm e he) (g.two he)).2
theorem planS_inj {pl pl2 : Plan} (g : Good pl) (g2 : Good pl2) (h : planS pl = planS pl2) : pl = pl2 := by
  rw [← plOf_plan g, h, plOf_plan g2]
theorem map_inj_of {α β : Type} {f : α → β} (hf : ∀ a b, f a = f b → a = b) : ∀ {l m : List α}, l.map f = m.map f → l = m
  | [], [], _ => rfl
  | [], _ :: _, h => by cases h
  | _ :: _, [], h => by cases h
  | a :: l, b :: m, h => by
    rw [List.map_cons, List.map_cons] at h
    injection h with h1 h2
    rw [hf _ _ h1, map_inj_of hf h2]
theorem refD_inj (r s : Ref) (h : refD r = refD s) : r = s := by
  unfold refD at h
  simp only [PyData.tuple.injEq, List.cons.injEq, PyData.str.injEq, and_true] at h
  exact Prod.ext h.1 h.2
theorem entD_inj (a b : Ent) (h : entD a = entD b) : a = b := by
  unfold entD refsD at h
  simp only [PyData.tuple.injEq, List.cons.injEq, PyData.str.injEq, PyData.bool.injEq, and_true] at h
  obtain ⟨h1, h2, h3⟩ := h
  exact Prod.ext h1 (Prod.ext h2 (map_inj_of refD_inj h3))
theorem planD_inj {p q : Plan} (h : planD p = planD q) : p = q := by
  unfold planD at h
  simp only [PyData.tuple.injEq] at h
  exact map_inj_of entD_inj h
theorem TdAll.bls_inv {H : Hp} : ∀ {vs : List V} {bs : List Bool}, TdAll H vs (bs.map PyData.bool) → vs = bs.map V.bl
  | _, [], h => by cases h; rfl
  | _, b :: bs, h => by
    cases h with
    | cons h1 h2 =>
      cases h1
      rw [TdAll.bls_inv h2]
      rfl
theorem cutV_strs (ws : List Str) (lo hi : Option Int) : cutV (ws.map V.str) lo hi = (cutL ws lo hi).map V.str := by
  unfold cutV cutL
  rw [List.map_take, List.map_drop, List.length_map]
theorem badT_skip {ls : List Str} {i : Nat} (h : i < ls.length) (k : tabTB (Txt.split ls[i] " ") = true) : badT i (ls.drop i) = badT (i + 1) (ls.drop (i + 1)) := by
  rw [badT_at (List.getElem?_eq_getElem h), if_pos k]
theorem Sh.parts {x : Str} (h : x.length ≤ 1000) : Sh (.str x) := .str x h
theorem sh_ref {r : Ref} (h1 : r.1.length ≤ 1000) (h2 : r.2.length ≤ 1000) : Sh (refD r) := .tuple _ fun d hd => by
  simp only [List.mem_cons, List.not_mem_nil, or_false] at hd
  rcases hd with rfl | rfl
  · exact .str _ h1
  · exact .str _ h2
theorem sh_ent {e : Ent} (hn : e.1.length ≤ 1000) (hr : ∀ r ∈ e.2.2, r.1.length ≤ 1000 ∧ r.2.length ≤ 1000) : Sh (entD e) := .tuple _ fun d hd => by
  simp only [List.mem_cons, List.not_mem_nil, or_false] at hd
  rcases hd with rfl | rfl | rfl
  · exact .str _ hn
  · exact .bool _
  · refine .tuple _ fun d hd => ?_
    obtain ⟨r, hr', rfl⟩ := List.mem_map.mp hd
    exact sh_ref (hr r hr').1 (hr r hr').2
theorem tabTB_sh {ws : List Str} (h : tabTB ws = true) : Sh (entD (entOf ws)) := by
  obtain ⟨n, f, r, rfl, hn, _, hr⟩ := tabTB_two h
  refine sh_ent (by have := hn.hi; show n.length ≤ 1000; omega) fun x hx => ?_
  obtain ⟨w, hw, rfl⟩ := List.mem_map.mp hx
  obtain ⟨_, h1, h2⟩ := refTB_inv (hr w hw)
  have := h1.hi
  have := h2.hi
  omega
theorem sh_plan {pl : Plan} (g : Good pl) : Sh (planD pl) := .tuple _ fun d hd => by
  obtain ⟨e, he, rfl⟩ := List.mem_map.mp hd
  refine sh_ent (by have := (g.nm e he).hi; omega) fun r hr => ?_
  have h1 := ((g.refs e he).nm r hr).hi
  have h2 := (g.toNm he hr).hi
  omega
theorem ifSame {α : Type} [DecidableEq α] {a : α} {A B : Prop} (k : B) : if (!decide (a = a)) = true then A else B := by
  rw [decide_eq_true rfl]
  exact iteF k
theorem flag_word (n : Str) (b : Bool) : n ++ (if b then (" unique" : Str) else " any") = Txt.join " " [n, flagS b] := by
  rw [join_cons, join_one]
  have h1 : (" unique" : Str) = " " ++ ("unique" : Str) := by decide +kernel
  have h2 : (" any" : Str) = " " ++ ("any" : Str) := by decide +kernel
  cases b
  · show n ++ (" any" : Str) = n ++ " " ++ "any"
    rw [h2, str_assoc]
  · show n ++ (" unique" : Str) = n ++ " " ++ "unique"
    rw [h1, str_assoc]
theorem join_take (y : Str) {ws : List Str} {j : Nat} (h0 : 0 < j) (h : j < ws.length) : Txt.join y (ws.take (j + 1)) = Txt.join y (ws.take j) ++ y ++ ws[j] := by
  rw [List.take_succ_eq_append_getElem h, join_snoc]
  intro z
  have := congrArg List.length z
  rw [List.length_take, List.length_nil] at this
  omega
theorem join_take_len (y : Str) (ws : List Str) (j : Nat) : (Txt.join y (ws.take j)).length ≤ (ws.map (·.length)).sum + ws.length * y.length := by
  have h1 := join_len y (ws.take j)
  have h2 : ((ws.take j).map (·.length)).sum ≤ (ws.map (·.length)).sum := by
    have e : ws.map (·.length) = (ws.take j).map (·.length) ++ (ws.drop j).map (·.length) := by rw [← List.map_append, List.take_append_drop]
    rw [e, List.sum_append]
    exact Nat.le_add_right _ _
  have h3 : (ws.take j).length * y.length ≤ ws.length * y.length := Nat.mul_le_mul_right _ (by rw [List.length_take]; exact Nat.min_le_right _ _)
  omega
end My
namespace My
open PySem PySem.Spec PyProof.Rows L2
theorem callWith_typeKw {M : Model} {A : Around} {E : Value → Shared → Prop} {s : Shared} {pos : Pos} {T : String} {first : List Value} {args : List (Bool × Sem Value)} {keywords : List (Option Str × Sem Value)} {Q : Value → Shared → Prop}
    (hplain : args.any (·.1) = false) (hkw : keywords.any (·.1.isNone) = false)
    (h : wpAny M A (evalArgs (.type T) true args keywords) (fun a s₁ => wpAny M A (call (.type T) (first ++ a.pos) a.kw) Q E s₁) E s) :
    wpAny M A (callWith pos (.type T) first args keywords) Q E s := by
  unfold callWith
  refine wpAny_bind (wpAny_holding (wpAny_mono h (fun a s₁ h₁ => wpAny_bind (wpAny_standAt ?_)) fun _ _ x => x))
  simp only [hplain, hkw, Bool.or_false]
  refine wpAny_bind (wpAny_pure ?_)
  exact wpAny_bind (wpAny_mono h₁ (fun r s₂ hr => wpAny_bind (wpAny_holding (wpAny_point (wpAny_pure hr)))) fun _ _ x => x)
def Ites (K : PySem.W.Frag) (a : Addr) (c : Int) : It :=
  ⟨fun i H => ∃ (xs : List V) (x : V), SqL K H a xs ∧ xs[i]? = some x, fun i H v H' => ∃ T x, v = .ref T ∧ H T = none ∧ H' = upd H T (.tup [.int (c + (i : Nat)), x]) ∧ ∀ xs, SqL K H a xs → xs[i]? = some x, fun i H => ∃ xs : List V, SqL K H a xs ∧ xs.length ≤ i⟩
theorem turn_enumS {P : Program} {w : World} {K : PySem.W.Frag} {elts : List Expr} {kk : Nat} {tpos : Pos} (a e it : Addr) (c : Int) :
    Turn P w K (.Tuple elts kk tpos) (Ites K a c) [e, it] e (fun i h => (∃ old, IsEnum h e it (c + (i : Nat)) old) ∧ h.IsListIter it a i ∧ e ≠ it) where
  mem := by simp
  obj := fun i h st b hb => by
    obtain ⟨⟨old, he⟩, ⟨o, ho, hc, hd⟩, _⟩ := st
    have e' : b = e ∨ b = it := by simpa using hb
    rcases e' with z | z
    · rw [z]; exact ⟨_, he, fun v q => nomatch q⟩
    · rw [z]; exact ⟨o, ho, fun v q => by rw [hd] at q; cases q⟩
  keep := fun i h h' st k => let ⟨⟨old, he⟩, hi, hne⟩ := st; ⟨⟨old, k e (by simp) _ he⟩, hi.at fun o q => k it (by simp) o q, hne⟩
  item := by
    intro X hP hw hK hc i pins s σ H E I hf st hg
    subst hP hw hK
    obtain ⟨⟨old, he⟩, hit, hne⟩ := st
    obtain ⟨xs, x, hq, hx⟩ := hg
    obtain ⟨its, rv, p, hz⟩ := I.list hq
    obtain ⟨u, hu, ru⟩ := rv.get hx
    have hel : e < s.heap.objs.size := Heap.lt_size he
    have hil : it < s.heap.objs.size := by obtain ⟨_, q, _⟩ := hit; exact Heap.lt_size q
    have hal : a ≠ it := fun z => by
      obtain ⟨o, ho, hc1, hd⟩ := hit
      obtain ⟨o2, ho2, hc2, _⟩ := p.isList
      rw [z, ho] at ho2
      cases ho2
      rw [hc1] at hc2
      exact absurd (Value.type.inj hc2) (by decide)
    have hae : a ≠ e := fun z => by
      obtain ⟨o2, ho2, hc2, _⟩ := p.isList
      rw [z, he] at ho2
      cases ho2
      exact absurd (Value.type.inj hc2) (by decide)
    have hlt : i < its.toArray.size := by
      rw [List.size_toArray]
      exact (List.getElem?_eq_some_iff.mp hu).1
    refine wpAny_pyNext_enum_itemC (n := its.toArray.size) (Draws.list (prog := X.prog) (w := X.w) (A := X.A.in1) (I.ok.hd hc) it a hal its.toArray) he ⟨hit, p.isList⟩ hlt hne (by simp only [List.mem_cons, List.not_mem_nil, or_false, not_or]; exact ⟨hne, Ne.symm hae⟩) fun x' h' tk hP ho hst' hT hsz hk => ?_
    have hux : x' = u := by
      have hP : its.toArray[i]? = some x' := hP
      rw [List.getElem?_toArray, hu] at hP
      exact (Option.some.inj hP).symm
    subst hux
    refine ⟨_, rfl, wpAny_letOwnedTupleGo_enum (s := { s with heap := h', toks := tk + 1 }) ho fun h'' he' sb => ?_⟩
    have hT2 : h''.get? s.heap.objs.size = some { cls := .type "tuple", data := .seq #[.int (c + (i : Nat)) tk, x'] } := (sb.2 _ (Nat.ne_of_gt hel)).trans hT
    have new : ObjOk X.prog X.w (upd H s.heap.objs.size (.tup [.int (c + (i : Nat)), x])) h'' s.heap.objs.size (.tup [.int (c + (i : Nat)), x]) :=
      ⟨by show 2 ≤ sizeLine; decide, [.int (c + (i : Nat)) tk, x'], .cons ⟨_, rfl⟩ (.cons ru .nil), ⟨_, hT2, rfl, _, rfl⟩⟩
    have I1 : Inv X pins σ (upd H s.heap.objs.size (.tup [.int (c + (i : Nat)), x])) { s with heap := h'', toks := tk + 1 } :=
      I.turnedNew (ch := [e, it]) (fun b ob hb q => (sb.2 b (fun z => hb (by simp [z]))).trans (hk b ob (fun z => hb (by simp [z])) (fun z => hb (by simp [z])) q)) hf (Nat.le_refl _) new
    refine ⟨.ref s.heap.objs.size, _, I1, rfl, ⟨_, x, rfl, I.hok.fresh (Nat.le_refl _), rfl, fun ys hy => by rw [I.list_inj hy hq]; exact hx⟩, ⟨⟨x', ?_⟩, hst'.1.at fun o q => (sb.2 it (Ne.symm hne)).trans q, hne⟩, fun b hb => ?_⟩
    · have e1 : c + ((i + 1 : Nat) : Int) = c + (i : Nat) + 1 := by omega
      rw [e1]; exact he'
    · have hb' : b < s.heap.objs.size := by
        have e' : b = e ∨ b = it := by simpa using hb
        rcases e' with z | z
        · rw [z]; exact hel
        · rw [z]; exact hil
      rw [upd_ne (Nat.ne_of_lt hb')]
      exact (hf b hb).1
  done := by
    intro X hP hw hK hc i pins s σ H E I hf st hg
    subst hP hw hK
    obtain ⟨⟨old, he⟩, hit, hne⟩ := st
    obtain ⟨xs, hq, hx⟩ := hg
    obtain ⟨its, rv, p, hz⟩ := I.list hq
    obtain ⟨f0, f1, f2, f3, f4, f5⟩ := hf it (by simp)
    have hl := rv.length
    have hT : s.TypeIs (.ref e) "enumerate" := ⟨_, he, rfl⟩
    unfold pyNext
    refine wpAny_bind (wpAny_attempt (wpAny_callSpecial?_slot (name := Str.ofString "__next__") hT PySem.F.slot_enumerate_next
      (wpAny_call_entry PySem.F.slot_enumerate_next hT PySem.F.entry_enumerate_next ?_ (PySem.F.args_enumerate_next_1 _))))
    show wpAny _ _ (field (.ref e) 2 >>= _) _ _ _
    refine wpAny_bind (wpAny_field he rfl (x := .ref it) rfl ?_)
    refine wpAny_bind (wpAny_nextOf_list_end (show X.A.in1.handled = none from I.ok.hd hc) hit p.isList (by simp; omega) fun h' x he' hx' => ?_)
    obtain ⟨o, ho, hcl⟩ := hx'
    refine wpAny_bind (wpAny_isInstance (T := "StopIteration") (b := true) ⟨o, ho, hcl⟩ isSubtype_stop ?_)
    exact wpAny_pure ⟨rfl, I.turned (t' := s.toks) (fun b o hb e => he' b o hb e) f0 f1 f3 f4 f5⟩
  self := fun A i s Q E st h => let ⟨⟨_, he⟩, _⟩ := st; wpAny_pyIter_enum he h
def iEnumS (K : PySem.W.Frag) (ta tk : TA) : TI := fun σ H R => ta σ H fun vs H1 => tk σ H1 fun zs H2 => ∃ a xs c, vs = [.ref a] ∧ SqL K H2 a xs ∧ zs = [.int c] ∧ 0 ≤ c ∧ c ≤ 1000 ∧ R (Ites K a c) H2
theorem pi_enumS {X : Cx} {K : PySem.W.Frag} {e : Expr} {ta tk : TA} {p pos tpos : Pos} {elts : List Expr} {kk : Nat} {kws : List Keyword} (hg : Gl X "enumerate") (hm : X.mg "enumerate" = none) (ha : PA X [e] ta) (hkw : PK X kws tk) (hK : X.K = K := by rfl)
    (he : backTo pos (starEach [e] X.env) = (false, eval e X.env) :: backTo pos (starEach [] X.env) := by rfl) (hpl : (backTo pos (starEach [e] X.env)).any (·.1) = false := by rfl)
    (hall : (backToKw pos (keywordEach kws X.env)).all (·.1.isSome) = true := by rfl) (hnone : (backToKw pos (keywordEach kws X.env)).any (·.1.isNone) = false := by rfl) (hks : (backToKw pos (keywordEach kws X.env)).filterMap (·.1) = [Str.ofString "start"] := by rfl) :
    PI X (.Tuple elts kk tpos) (.Call (.Name "enumerate" p) [e] kws pos) (iEnumS K ta tk) := by
  subst hK
  refine ⟨fun pins s σ H R I h => ?_⟩
  refine wpAny_Call_Name_kw (ld_blt I hg hm boot_enumerate ?_)
  refine callWith_typeKw hpl hnone ?_
  have hA : ∀ {Q : Args → Shared → Prop}, wpAny (model X.prog X.w) X.A (spliced (backTo pos (starEach [e] X.env))) (fun vs s₁ => wpAny (model X.prog X.w) X.A (evalAll ((backToKw pos (keywordEach kws X.env)).map (·.2))) (fun kvs s₂ => Q ⟨vs, ((backToKw pos (keywordEach kws X.env)).filterMap (·.1)).zip kvs⟩ s₂) X.xe s₁) X.xe s →
      wpAny (model X.prog X.w) X.A (evalArgs (.type "enumerate") true (backTo pos (starEach [e] X.env)) (backToKw pos (keywordEach kws X.env))) Q X.xe s := fun h => by
    rw [he] at h ⊢
    exact evalArgs_kwB hall h
  refine hA (thn (ha.run pos pins s σ H _ I h) fun us s1 ⟨vs, H1, I1, r1, q1⟩ => thn (hkw.run pos pins s1 σ H1 _ I1 q1) fun ws s2 ⟨zs, H2, I2, r2, q2⟩ => ?_)
  obtain ⟨a, xs, c, ex, hq, ez, hc0, hc1, q⟩ := q2
  subst ex ez
  cases r1 with
  | cons r rr =>
    cases rr
    cases r
    cases r2 with
    | cons r' rr' =>
      cases rr'
      obtain ⟨tkn, rfl⟩ := r'
      obtain ⟨its, rv, p', hz⟩ := I2.list hq
      rw [hks]
      show wpAny _ _ (call (.type "enumerate") [.ref a] [(Str.ofString "start", .int c tkn)]) _ _ _
      refine enum_begins_start (begins_list a its.toArray) p'.isList (by omega) (by omega) fun h' he hit hsz hk => wpAny_pyIter_enum he ?_
      have I3 : Inv X pins σ H2 { s2 with heap := h' } := I2.kept (t' := s2.toks) hk
      refine ⟨s2.heap.objs.size + 1, [s2.heap.objs.size + 1, s2.heap.objs.size], _, _, H2, rfl, I3, turn_enumS a (s2.heap.objs.size + 1) s2.heap.objs.size c, ⟨⟨.none, by simpa using he⟩, ⟨_, hit, rfl, rfl⟩, Nat.succ_ne_self _⟩, fun b hb => ?_, q⟩
      have e' : b = s2.heap.objs.size + 1 ∨ b = s2.heap.objs.size := by simpa using hb
      have hle : s2.heap.objs.size ≤ b := by
        rcases e' with z | z
        · rw [z]; exact Nat.le_add_right _ _
        · rw [z]; exact Nat.le_refl _
      exact I2.fpOk hle (I2.hok.fresh hle)
theorem walk_enumS {K : PySem.W.Frag} {a : Addr} {xs : List V} {c : Int} : Walk (Ites K a c) xs.length (fun H => SqL K H a xs) (YPair (fun i => some (.int (c + (i : Nat)))) (fun i => xs[i]?)) := by
  refine ⟨fun i H hi hG => ⟨xs, xs[i], hG, by simp [hi]⟩, fun H hG => ⟨xs, hG, Nat.le_refl _⟩, fun i H x H' hi hG y => ?_⟩
  obtain ⟨T, x2, rfl, hT, rfl, y⟩ := y
  exact ⟨T, _, x2, rfl, hT, rfl, rfl, y xs hG⟩
end My
namespace My
open PySem PySem.Spec PyProof.Rows L2
def rNotInT (K : PySem.W.Frag) : R2 := fun x y H Q => ∃ d ds, Dp K H x d ∧ Dp K H y (.tuple ds) ∧ SeqAt.shaped d = true ∧ SeqAt.shaped (.tuple ds) = true ∧ Q (.bl (!ds.any fun z => PyData.eqv z d)) H
theorem kNotInT {X : Cx} {K : PySem.W.Frag} (hu : X.A.units + 65 < cLine) (h : X.K = K := by rfl) : OpR X (compareOp .NotIn) (rNotInT K) := by
  subst h
  intro pins s σ H x y v u Q I rx ry h
  obtain ⟨d, ds, hd, he, sd, se, q⟩ := h
  obtain ⟨as, r1⟩ := Dp.reads I d x v hd rx
  obtain ⟨bs, r2⟩ := Dp.reads I (.tuple ds) y u he ry
  exact SeqAt.notIn_tuple_reads r2 r1 (SeqAt.canLay_of_shaped se) (SeqAt.canLay_of_shaped sd) (room_in_shaped sd hu) ⟨.bl _, H, I, rfl, q⟩
def stepW : Step → List Str
  | .load n m b => "load" :: n :: m :: (if b then ["match"] else [])
  | .col w n c => [w, n, c]
def stepT (s : Step) : Str := Txt.join " " (stepW s)
def keptS (b : Bool) : Str := if b then "kept" else "lost"
def scriptS (b : Bool) (ts : List Step) : Str := Txt.join "; " (keptS b :: ts.map stepT)
def Wd (x : Str) : Prop := 1 ≤ x.length ∧ x.length ≤ 8 ∧ ∀ c ∈ TL.tl x, 97 ≤ c ∧ c ≤ 122
theorem Nm.wd {x : Str} (h : Nm x) : Wd x := ⟨h.lo, h.hi, h.az⟩
theorem wd_of {x : Str} (h : Nm x) : Wd x := ⟨h.lo, h.hi, h.az⟩
theorem nm_lit {x : Str} (h1 : 1 ≤ x.length) (h2 : x.length ≤ 8) (h3 : (cd x).all azB = true) : Nm x := Nm.of rfl (by rw [← cd_len]; exact h1) (by rw [← cd_len]; exact h2) fun c hc => of_decide_eq_true (List.all_eq_true.mp h3 c hc)
theorem nm_load : Nm "load" := nm_lit (by decide +kernel) (by decide +kernel) (by decide +kernel)
theorem nm_match : Nm "match" := nm_lit (by decide +kernel) (by decide +kernel) (by decide +kernel)
theorem nm_kept : Nm "kept" := nm_lit (by decide +kernel) (by decide +kernel) (by decide +kernel)
theorem nm_lost : Nm "lost" := nm_lit (by decide +kernel) (by decide +kernel) (by decide +kernel)
theorem nm_raw : Nm "raw" := nm_lit (by decide +kernel) (by decide +kernel) (by decide +kernel)
theorem nm_blank : Nm "blank" := nm_lit (by decide +kernel) (by decide +kernel) (by decide +kernel)
theorem nm_refuse : Nm "refuse" := nm_lit (by decide +kernel) (by decide +kernel) (by decide +kernel)
theorem nm_patch : Nm "patch" := nm_lit (by decide +kernel) (by decide +kernel) (by decide +kernel)
theorem nm_fill : Nm "fill" := nm_lit (by decide +kernel) (by decide +kernel) (by decide +kernel)
theorem nm_sweep : Nm "sweep" := nm_lit (by decide +kernel) (by decide +kernel) (by decide +kernel)
theorem nm_miss {m : Str} (h : m ∈ [("raw" : Str), "blank", "refuse"]) : Nm m := by
  simp only [List.mem_cons, List.not_mem_nil, or_false] at h
  rcases h with rfl | rfl | rfl
  · exact nm_raw
  · exact nm_blank
  · exact nm_refuse
theorem nm_cols {m : Str} (h : m ∈ [("patch" : Str), "fill", "sweep"]) : Nm m := by
  simp only [List.mem_cons, List.not_mem_nil, or_false] at h
  rcases h with rfl | rfl | rfl
  · exact nm_patch
  · exact nm_fill
  · exact nm_sweep
theorem keptS_nm (b : Bool) : Nm (keptS b) := by
  cases b
  · exact nm_lost
  · exact nm_kept
def Step.Nice : Step → Prop
  | .load n m _ => Nm n ∧ m ∈ [("raw" : Str), "blank", "refuse"]
  | .col w n c => w ∈ [("patch" : Str), "fill", "sweep"] ∧ Nm n ∧ Nm c
theorem Step.Ok.nice {pl : Plan} (g : Good pl) : ∀ {s : Step}, s.Ok pl → s.Nice
  | .load n m b, h => ⟨g.names n h.1, h.2⟩
  | .col w n c, h => by
    obtain ⟨hw, e, he, rfl, hc⟩ := h
    obtain ⟨r, hr, rfl⟩ := List.mem_map.mp hc
    exact ⟨hw, g.nm e he, (g.refs e he).nm r hr⟩
theorem stepW_nm : ∀ {s : Step}, s.Nice → ∀ w ∈ stepW s, Nm w
  | .load n m b, h, w, hw => by
    simp only [stepW, List.mem_cons] at hw
    rcases hw with rfl | rfl | rfl | hw
    · exact nm_load
    · exact h.1
    · exact nm_miss h.2
    · cases b
      · exact absurd hw List.not_mem_nil
      · rw [List.mem_singleton.mp hw]
        exact nm_match
  | .col w0 n c, h, w, hw => by
    simp only [stepW, List.mem_cons, List.not_mem_nil, or_false] at hw
    rcases hw with rfl | rfl | rfl
    · exact nm_cols h.1
    · exact h.2.1
    · exact h.2.2
theorem stepW_len (s : Step) : (stepW s).length ≤ 4 ∧ 3 ≤ (stepW s).length := by
  cases s with
  | load n m b => cases b <;> simp [stepW]
  | col w n c => simp [stepW]
theorem stepT_split {s : Step} (h : s.Nice) : Txt.split (stepT s) " " = stepW s :=
  TL.split_join tl_space (by decide +kernel) (fun z => by have := (stepW_len s).2; rw [z] at this; simp at this) fun p hp => (stepW_nm h p hp).not (by decide)
theorem stepT_not {s : Step} (h : s.Nice) : 59 ∉ TL.tl (stepT s) := fun m => by
  rcases mem_join m with m | ⟨w, hw, m⟩
  · rw [tl_space] at m
    simp at m
  · exact (stepW_nm h w hw).not (by decide) m
theorem scriptS_split {b : Bool} {ts : List Step} (h : ∀ s ∈ ts, s.Nice) : Txt.split (scriptS b ts) "; " = keptS b :: ts.map stepT := by
  refine TL.split_join tl_semi (by decide +kernel) (by simp) fun p hp => ?_
  rcases List.mem_cons.mp hp with rfl | hp
  · exact (keptS_nm b).not (by decide)
  · obtain ⟨s, hs, rfl⟩ := List.mem_map.mp hp
    exact stepT_not (h s hs)
theorem stepW_sum {s : Step} (h : s.Nice) : ((stepW s).map (·.length)).sum + (stepW s).length * 1 ≤ 36 := by
  have h1 := sum_le (fun w : Str => w.length) 8 fun w hw => (stepW_nm h w hw).hi
  have h2 := (stepW_len s).1
  have : (stepW s).length * 8 ≤ 4 * 8 := Nat.mul_le_mul_right _ h2
  omega
theorem stepT_len {s : Step} (h : s.Nice) : (stepT s).length ≤ 36 := by
  have h1 := join_len " " (stepW s)
  have h2 := stepW_sum h
  rw [len_space] at h1
  unfold stepT
  omega
theorem len_semi : ("; " : Str).length = 2 := by decide +kernel
theorem keptS_len (b : Bool) : (keptS b).length = 4 := by cases b <;> decide +kernel
theorem scriptS_sum {b : Bool} {ts : List Step} (h : ∀ s ∈ ts, s.Nice) (hl : ts.length ≤ 20) : ((keptS b :: ts.map stepT).map (·.length)).sum + (keptS b :: ts.map stepT).length * 2 ≤ 800 := by
  have h1 := sum_le (fun w : Str => w.length) 36 (l := ts.map stepT) fun w hw => by
    obtain ⟨s, hs, rfl⟩ := List.mem_map.mp hw
    exact stepT_len (h s hs)
  have h2 := keptS_len b
  simp only [List.map_cons, List.sum_cons, List.length_cons] at h1 ⊢
  rw [List.length_map] at h1 ⊢
  have : ts.length * 36 ≤ 20 * 36 := Nat.mul_le_mul_right _ hl
  omega
theorem scriptS_len {b : Bool} {ts : List Step} (h : ∀ s ∈ ts, s.Nice) (hl : ts.length ≤ 20) : (scriptS b ts).length ≤ 800 := by
  have h1 := join_len "; " (keptS b :: ts.map stepT)
  have h2 := scriptS_sum (b := b) h hl
  rw [len_semi] at h1
  unfold scriptS
  omega
def loadTB : List Str → Bool
  | w :: n :: m :: r => decide (w = "load") && (decide (r = [] ∨ r = [("match" : Str)]) && (nameB (.str n) && decide (m ∈ [("raw" : Str), "blank", "refuse"])))
  | _ => false
def colTB : List Str → Bool
  | [w, n, c] => decide (w ∈ [("patch" : Str), "fill", "sweep"]) && (nameB (.str n) && nameB (.str c))
  | _ => false
def stepTB (ws : List Str) : Bool := loadTB ws || colTB ws
def stepOf : List Str → Step
  | w :: n :: m :: r => if w = "load" then .load n m (decide (r.length = 1)) else .col w n m
  | _ => .col "" "" ""
theorem stepOf_load (n m : Str) (r : List Str) : stepOf (("load" : Str) :: n :: m :: r) = .load n m (decide (r.length = 1)) := by
  unfold stepOf
  simp only [if_true]
theorem loadTB_inv {ws : List Str} (h : loadTB ws = true) : ∃ n m b, ws = stepW (.load n m b) ∧ (Step.load n m b).Nice ∧ stepOf ws = .load n m b := by
  match ws, h with
  | w :: n :: m :: r, h =>
    unfold loadTB at h
    simp only [Bool.and_eq_true, decide_eq_true_eq] at h
    obtain ⟨rfl, hr, hn, hm⟩ := h
    obtain ⟨x, ex, hx⟩ := nameB_inv hn
    cases ex
    rcases hr with rfl | rfl
    · exact ⟨n, m, false, rfl, ⟨hx, hm⟩, stepOf_load n m []⟩
    · exact ⟨n, m, true, rfl, ⟨hx, hm⟩, stepOf_load n m ["match"]⟩
theorem cols_ne {w : Str} (h : w ∈ [("patch" : Str), "fill", "sweep"]) : ¬ w = "load" := by
  simp only [List.mem_cons, List.not_mem_nil, or_false] at h
  rcases h with rfl | rfl | rfl <;> decide +kernel
theorem colTB_inv {ws : List Str} (h : colTB ws = true) : ∃ w n c, ws = stepW (.col w n c) ∧ (Step.col w n c).Nice ∧ stepOf ws = .col w n c := by
  match ws, h with
  | [w, n, c], h =>
    unfold colTB at h
    simp only [Bool.and_eq_true, decide_eq_true_eq] at h
    obtain ⟨hw, hn, hc⟩ := h
    obtain ⟨x, ex, hx⟩ := nameB_inv hn
    cases ex
    obtain ⟨y, ey, hy⟩ := nameB_inv hc
    cases ey
    exact ⟨w, n, c, rfl, ⟨hw, hx, hy⟩, if_neg (cols_ne hw)⟩
theorem stepTB_inv {ws : List Str} (h : stepTB ws = true) : ∃ s : Step, ws = stepW s ∧ s.Nice ∧ stepOf ws = s := by
  unfold stepTB at h
  rw [Bool.or_eq_true] at h
  rcases h with h | h
  · obtain ⟨n, m, b, h1, h2, h3⟩ := loadTB_inv h
    exact ⟨_, h1, h2, h3⟩
  · obtain ⟨w, n, c, h1, h2, h3⟩ := colTB_inv h
    exact ⟨_, h1, h2, h3⟩
theorem stepTB_step : ∀ {s : Step}, s.Nice → stepTB (stepW s) = true ∧ stepOf (stepW s) = s
  | .load n m b, h => by
    have hl : loadTB (stepW (.load n m b)) = true := by
      show (decide (("load" : Str) = "load") && (decide ((if b then [("match" : Str)] else []) = [] ∨ (if b then [("match" : Str)] else []) = [("match" : Str)]) && (nameB (.str n) && decide (m ∈ [("raw" : Str), "blank", "refuse"])))) = true
      rw [nameB_nm h.1, decide_eq_true h.2]
      cases b <;> simp
    refine ⟨by unfold stepTB; rw [hl]; rfl, ?_⟩
    show stepOf (("load" : Str) :: n :: m :: (if b then [("match" : Str)] else [])) = _
    rw [stepOf_load]
    cases b <;> rfl
  | .col w n c, h => by
    have hl : colTB (stepW (.col w n c)) = true := by
      show (decide (w ∈ [("patch" : Str), "fill", "sweep"]) && (nameB (.str n) && nameB (.str c))) = true
      rw [decide_eq_true h.1, nameB_nm h.2.1, nameB_nm h.2.2]
      rfl
    refine ⟨by unfold stepTB; rw [hl, Bool.or_true], if_neg (cols_ne h.1)⟩
def badP : Nat → List Str → Option Nat
  | _, [] => none
  | i, p :: r => if stepTB (Txt.split p " ") = true then badP (i + 1) r else some i
def badS (x : Str) : Option Nat := match Txt.split x "; " with
  | k :: r => if k = "kept" ∨ k = "lost" then badP 1 r else some 0
  | [] => some 0
def stsOf (x : Str) : List Step := ((Txt.split x "; ").drop 1).map fun p => stepOf (Txt.split p " ")
def kpOf (x : Str) : Bool := decide ((Txt.split x "; ")[0]? = some ("kept" : Str))
theorem badP_all : ∀ {ls : List Str} {i : Nat}, (∀ l ∈ ls, stepTB (Txt.split l " ") = true) → badP i ls = none
  | [], _, _ => rfl
  | l :: r, i, h => by
    unfold badP
    rw [if_pos (h l List.mem_cons_self)]
    exact badP_all fun x hx => h x (List.mem_cons_of_mem _ hx)
theorem badP_none : ∀ {ls : List Str} {i : Nat}, badP i ls = none → ∀ l ∈ ls, stepTB (Txt.split l " ") = true
  | [], _, _, l, hl => by cases hl
  | a :: r, i, h, l, hl => by
    unfold badP at h
    by_cases c : stepTB (Txt.split a " ") = true
    · rw [if_pos c] at h
      rcases List.mem_cons.mp hl with rfl | hl
      · exact c
      · exact badP_none h l hl
    · rw [if_neg c] at h
      cases h
theorem badP_at {ls : List Str} {i : Nat} {l : Str} (h : ls[i]? = some l) (c : Nat) : badP (c + i) (ls.drop i) = if stepTB (Txt.split l " ") = true then badP (c + (i + 1)) (ls.drop (i + 1)) else some (c + i) := by
  obtain ⟨hl, e⟩ := List.getElem?_eq_some_iff.mp h
  rw [List.drop_eq_getElem_cons hl, e]
  rfl
theorem keptS_or (b : Bool) : keptS b = "kept" ∨ keptS b = "lost" := by
  cases b
  · exact .inr rfl
  · exact .inl rfl
theorem badS_script {b : Bool} {ts : List Step} (h : ∀ s ∈ ts, s.Nice) : badS (scriptS b ts) = none := by
  unfold badS
  rw [scriptS_split h]
  show (if keptS b = "kept" ∨ keptS b = "lost" then badP 1 (ts.map stepT) else some 0) = none
  rw [if_pos (keptS_or b)]
  refine badP_all fun l hl => ?_
  obtain ⟨s, hs, rfl⟩ := List.mem_map.mp hl
  rw [stepT_split (h s hs)]
  exact (stepTB_step (h s hs)).1
theorem stsOf_script {b : Bool} {ts : List Step} (h : ∀ s ∈ ts, s.Nice) : stsOf (scriptS b ts) = ts := by
  unfold stsOf
  rw [scriptS_split h]
  show (ts.map stepT).map (fun p => stepOf (Txt.split p " ")) = ts
  rw [List.map_map]
  refine (List.map_congr_left fun s hs => ?_).trans (List.map_id _)
  show stepOf (Txt.split (stepT s) " ") = s
  rw [stepT_split (h s hs)]
  exact (stepTB_step (h s hs)).2
theorem kpOf_script {b : Bool} {ts : List Step} (h : ∀ s ∈ ts, s.Nice) : kpOf (scriptS b ts) = b := by
  unfold kpOf
  rw [scriptS_split h]
  show decide (some (keptS b) = some ("kept" : Str)) = b
  cases b <;> decide +kernel
theorem scriptS_inj {b b2 : Bool} {ts ts2 : List Step} (h : ∀ s ∈ ts, s.Nice) (h2 : ∀ s ∈ ts2, s.Nice) (e : scriptS b ts = scriptS b2 ts2) : b = b2 ∧ ts = ts2 :=
  ⟨(kpOf_script h).symm.trans ((congrArg kpOf e).trans (kpOf_script h2)), (stsOf_script h).symm.trans ((congrArg stsOf e).trans (stsOf_script h2))⟩
theorem step_inj (s t : Step) (h : s.d = t.d) : s = t := by
  cases s <;> cases t <;> simp only [Step.d, PyData.tuple.injEq, List.cons.injEq, PyData.str.injEq, PyData.bool.injEq, and_true, true_and] at h
  · obtain ⟨rfl, rfl, rfl⟩ := h
    rfl
  · exact absurd h.2.2.2 (by simp)
  · exact absurd h.2.2.2 (by simp)
  · obtain ⟨rfl, rfl, rfl⟩ := h
    rfl
end My
namespace My
open PySem PySem.Spec PyProof.Rows L2
theorem pre1 (s c : Nat) (r : List Nat) : TL.pre [s] (c :: r) = decide (c = s) := by
  show ([c] == [s]) = _
  by_cases h : c = s
  · subst h
    simp
  · rw [decide_eq_false h]
    simp [h]
theorem spl1_step (s c : Nat) (acc r : List Nat) : TL.spl [s] 0 acc (c :: r) = if c = s then acc :: TL.spl [s] 0 [] r else TL.spl [s] 0 (acc ++ [c]) r := by
  by_cases h : c = s
  · rw [if_pos h, TL.spl_hit (by rw [pre1, decide_eq_true h])]
    rfl
  · rw [if_neg h, TL.spl_miss (by rw [pre1, decide_eq_false h])]
theorem spl1_sum {s : Nat} : ∀ l acc : List Nat, ((TL.spl [s] 0 acc l).map List.length).sum + (TL.spl [s] 0 acc l).length = acc.length + l.length + 1
  | [], acc => by
    rw [TL.spl_nil]
    simp
  | c :: r, acc => by
    rw [spl1_step]
    by_cases h : c = s
    · rw [if_pos h]
      have := spl1_sum (s := s) r []
      simp only [List.map_cons, List.sum_cons, List.length_cons, List.length_nil] at this ⊢
      omega
    · rw [if_neg h]
      have := spl1_sum (s := s) r (acc ++ [c])
      rw [List.length_append, List.length_singleton] at this
      rw [List.length_cons]
      omega
theorem spl1_not {s : Nat} : ∀ l acc : List Nat, s ∉ acc → ∀ p ∈ TL.spl [s] 0 acc l, s ∉ p
  | [], acc, h, p, hp => by
    rw [TL.spl_nil] at hp
    rw [List.mem_singleton.mp hp]
    exact h
  | c :: r, acc, h, p, hp => by
    rw [spl1_step] at hp
    by_cases e : c = s
    · rw [if_pos e] at hp
      rcases List.mem_cons.mp hp with rfl | hp
      · exact h
      · exact spl1_not r [] (by simp) p hp
    · rw [if_neg e] at hp
      refine spl1_not r (acc ++ [c]) (fun m => ?_) p hp
      rcases List.mem_append.mp m with m | m
      · exact h m
      · exact e (List.mem_singleton.mp m).symm
theorem spl1_num {s : Nat} : ∀ l acc : List Nat, (TL.spl [s] 0 acc l).length = l.count s + 1
  | [], acc => by
    rw [TL.spl_nil]
    rfl
  | c :: r, acc => by
    rw [spl1_step]
    by_cases e : c = s
    · rw [if_pos e, List.length_cons, spl1_num r [], e, List.count_cons_self]
    · rw [if_neg e, spl1_num r (acc ++ [c]), List.count_cons_of_ne e]
theorem spl_in {S : List Nat} : ∀ (l : List Nat) (k : Nat) (acc p : List Nat), p ∈ TL.spl S k acc l → ∀ c ∈ p, c ∈ acc ∨ c ∈ l
  | [], k, acc, p, h, c, hc => by
    rw [TL.spl_nil] at h
    rw [List.mem_singleton.mp h] at hc
    exact .inl hc
  | a :: r, 0, acc, p, h, c, hc => by
    by_cases e : TL.pre S (a :: r) = true
    · rw [TL.spl_hit e] at h
      rcases List.mem_cons.mp h with rfl | h
      · exact .inl hc
      · rcases spl_in r _ _ _ h c hc with h | h
        · cases h
        · exact .inr (List.mem_cons_of_mem _ h)
    · rw [TL.spl_miss (by simpa using e)] at h
      rcases spl_in r _ _ _ h c hc with h | h
      · rcases List.mem_append.mp h with h | h
        · exact .inl h
        · exact .inr (by rw [List.mem_singleton.mp h]; exact List.mem_cons_self)
      · exact .inr (List.mem_cons_of_mem _ h)
  | a :: r, k + 1, acc, p, h, c, hc => by
    rcases spl_in r k acc p h c hc with h | h
    · exact .inl h
    · exact .inr (List.mem_cons_of_mem _ h)
theorem part_in {x y p : Str} (s : Sep y) (h : p ∈ Txt.split x y) : ∀ c ∈ cd p, c ∈ cd x := fun c hc => by
  have h2 : TL.tl p ∈ (Txt.split x y).map TL.tl := List.mem_map.mpr ⟨p, h, rfl⟩
  rw [TL.split_spl x y s.ne (TL.kind_ok s.lat)] at h2
  rcases spl_in _ _ _ _ h2 c hc with z | z
  · cases z
  · exact z
def wt (ws : List Str) : Nat := (ws.map (·.length)).sum + ws.length
theorem wt_nil : wt [] = 0 := rfl
theorem wt_cons (w : Str) (ws : List Str) : wt (w :: ws) = w.length + 1 + wt ws := by
  simp only [wt, List.map_cons, List.sum_cons, List.length_cons]
  omega
theorem wt_one (w : Str) : wt [w] = w.length + 1 := by rw [wt_cons, wt_nil]
theorem wt_app (as bs : List Str) : wt (as ++ bs) = wt as + wt bs := by
  simp only [wt, List.map_append, List.sum_append, List.length_append]
  omega
theorem wt_cut (ws : List Str) (k : Nat) : wt (ws.take k) + wt (ws.drop k) = wt ws := by rw [← wt_app, List.take_append_drop]
theorem wt_at {ws : List Str} {k : Nat} (h : k < ws.length) : wt (ws.drop k) = ws[k].length + 1 + wt (ws.drop (k + 1)) := by rw [List.drop_eq_getElem_cons h, wt_cons]
theorem wt_mem {ws : List Str} {w : Str} (h : w ∈ ws) : w.length + 1 ≤ wt ws := by
  obtain ⟨k, hk, rfl⟩ := List.getElem_of_mem h
  have h1 := wt_cut ws k
  have h2 := wt_at hk
  omega
theorem wt_set : ∀ {ws : List Str} {i : Nat} (h : i < ws.length) (v : Str), wt (ws.set i v) + ws[i].length = wt ws + v.length
  | w :: ws, 0, h, v => by
    show wt (v :: ws) + w.length = _
    rw [wt_cons, wt_cons]
    omega
  | w :: ws, i + 1, h, v => by
    have hi : i < ws.length := by simpa using h
    have := wt_set hi v
    show wt (w :: ws.set i v) + ws[i].length = _
    rw [wt_cons, wt_cons]
    omega
theorem wt_swap {ws : List Str} {i j : Nat} (hi : i < ws.length) (hj : j < ws.length) : wt ((ws.set i ws[j]).set j ws[i]) = wt ws := by
  have h1 := wt_set hi ws[j]
  have h2 := wt_set (ws := ws.set i ws[j]) (i := j) (by rw [List.length_set]; exact hj) ws[i]
  have h3 : ((ws.set i ws[j])[j]'(by rw [List.length_set]; exact hj)) = ws[j] := by
    rw [List.getElem_set]
    split
    · rfl
    · rfl
  rw [h3] at h2
  omega
theorem join_wt {y : Str} (h : y.length = 1) (ws : List Str) : (Txt.join y ws).length ≤ wt ws := by
  have := join_len y ws
  rw [h, Nat.mul_one] at this
  exact this
structure Sep1 (y : Str) (s : Nat) : Prop where
  eq : TL.tl y = [s]
  sep : Sep y
theorem one_space : Sep1 " " 32 := ⟨tl_space, sep_space⟩
theorem one_line : Sep1 "\n" 10 := ⟨tl_line, sep_line⟩
section
variable {x y : Str} {s : Nat}
theorem Sep1.spl (h : Sep1 y s) : (Txt.split x y).map TL.tl = TL.spl [s] 0 [] (TL.tl x) := by
  rw [TL.split_spl x y h.sep.ne (TL.kind_ok h.sep.lat), h.eq]
theorem Sep1.wt (h : Sep1 y s) : wt (Txt.split x y) = x.length + 1 := by
  have e := h.spl (x := x)
  have h1 := spl1_sum (s := s) (TL.tl x) []
  rw [← e, List.map_map, List.length_map] at h1
  have h2 : (Txt.split x y).map (List.length ∘ TL.tl) = (Txt.split x y).map (·.length) := List.map_congr_left fun p _ => (TL.len_tl p).symm
  rw [h2, ← TL.len_tl] at h1
  show ((Txt.split x y).map (·.length)).sum + (Txt.split x y).length = _
  simpa using h1
theorem Sep1.not (h : Sep1 y s) : ∀ p ∈ Txt.split x y, s ∉ cd p := fun p hp => by
  have h2 : TL.tl p ∈ (Txt.split x y).map TL.tl := List.mem_map.mpr ⟨p, hp, rfl⟩
  rw [h.spl] at h2
  exact spl1_not _ _ (by simp) _ h2
theorem Sep1.num (h : Sep1 y s) : (Txt.split x y).length = (cd x).count s + 1 := by
  have e := congrArg List.length (h.spl (x := x))
  rw [List.length_map, spl1_num] at e
  exact e
end
def Clean (w : Str) : Prop := ∀ c ∈ cd w, c < 0x110000 ∧ c ≠ 10
theorem Nm.clean {w : Str} (h : Nm w) : Clean w := fun c hc => by have := h.az c hc; omega
theorem Clean.app {a b : Str} (ha : Clean a) (hb : Clean b) : Clean (a ++ b) := fun c hc => by
  rw [cd_app] at hc
  rcases List.mem_append.mp hc with h | h
  · exact ha c h
  · exact hb c h
theorem clean_lit {w : Str} (h : ((cd w).all fun c => decide (c < 0x110000) && !decide (c = 10)) = true) : Clean w := fun c hc => by
  have := List.all_eq_true.mp h c hc
  simpa using this
theorem Clean.part {x y p : Str} (s : Sep y) (h : Clean x) (hp : p ∈ Txt.split x y) : Clean p := fun c hc => h c (part_in s hp c hc)
theorem Clean.join {y : Str} (hy : Clean y) {ws : List Str} (h : ∀ w ∈ ws, Clean w) : Clean (Txt.join y ws) := fun c hc => by
  rcases mem_join (show c ∈ TL.tl (Txt.join y ws) from hc) with m | ⟨w, hw, m⟩
  · exact hy c m
  · exact h w hw c m
theorem clean_space : Clean " " := clean_lit (by decide +kernel)
theorem line_clean {x : Str} (h : ∀ c ∈ cd x, c < 0x110000) : ∀ l ∈ Txt.split x "\n", Clean l := fun l hl c hc =>
  ⟨h c (part_in sep_line hl c hc), fun e => one_line.not l hl (e ▸ hc)⟩
theorem lines_join {ws : List Str} (h : ∀ w ∈ ws, Clean w) : (Txt.split (Txt.join "\n" ws) "\n").length ≤ ws.length + 1 ∧ ∀ c ∈ cd (Txt.join "\n" ws), c < 0x110000 := by
  constructor
  · cases ws with
    | nil =>
      rw [one_line.num, join_nil]
      exact Nat.le_refl _
    | cons w r =>
      rw [TL.split_join tl_line (by decide +kernel) (by simp) fun p hp m => (h p hp 10 m).2 rfl]
      omega
  · intro c hc
    rcases mem_join (show c ∈ TL.tl (Txt.join "\n" ws) from hc) with m | ⟨w, hw, m⟩
    · rw [tl_line] at m
      rw [List.mem_singleton.mp m]
      decide
    · exact (h w hw c m).1
theorem len_line1 : ("\n" : Str).length = 1 := by decide +kernel
theorem len_space1 : (" " : Str).length = 1 := by decide +kernel
end My
namespace My
open PySem PySem.Spec PyProof.Rows L2
def sp2 (s t : Nat) : List Nat → List Nat → List (List Nat)
  | acc, [] => [acc]
  | acc, [c] => [acc ++ [c]]
  | acc, c :: d :: r => if c = s ∧ d = t then acc :: sp2 s t [] r else sp2 s t (acc ++ [c]) (d :: r)
section
variable {s t : Nat}
theorem sp2_nil (acc : List Nat) : sp2 s t acc [] = [acc] := by rw [sp2]
theorem sp2_one (acc : List Nat) (c : Nat) : sp2 s t acc [c] = [acc ++ [c]] := by rw [sp2]
theorem sp2_hit {c d : Nat} (acc r : List Nat) (e : c = s ∧ d = t) : sp2 s t acc (c :: d :: r) = acc :: sp2 s t [] r := by
  rw [sp2, if_pos e]
theorem sp2_miss {c d : Nat} (acc r : List Nat) (h : ¬ (c = s ∧ d = t)) : sp2 s t acc (c :: d :: r) = sp2 s t (acc ++ [c]) (d :: r) := by
  rw [sp2, if_neg h]
theorem spl_sp2 : ∀ (n : Nat) (acc l : List Nat), l.length ≤ n → TL.spl [s, t] 0 acc l = sp2 s t acc l
  | _, acc, [], _ => by rw [sp2_nil, TL.spl_nil]
  | _, acc, [c], _ => by
    rw [sp2_one, TL.spl_miss (by show ([c] == [s, t]) = false; simp), TL.spl_nil]
  | n + 1, acc, c :: d :: r, h => by
    have hp : TL.pre [s, t] (c :: d :: r) = decide (c = s ∧ d = t) := by
      show ([c, d] == [s, t]) = _
      rw [Bool.eq_iff_iff]
      simp
    simp only [List.length_cons] at h
    by_cases e : c = s ∧ d = t
    · rw [TL.spl_hit (by rw [hp, decide_eq_true e])]
      rw [sp2_hit _ _ e]
      exact congrArg (acc :: ·) (spl_sp2 n [] r (by omega))
    · rw [TL.spl_miss (by rw [hp, decide_eq_false e]), sp2_miss _ _ e]
      exact spl_sp2 n _ _ (by simp only [List.length_cons]; omega)
theorem sp2_acc : ∀ (n : Nat) (l : List Nat), l.length ≤ n → ∃ f r, ∀ acc, sp2 s t acc l = (acc ++ f) :: r
  | _, [], _ => ⟨[], [], fun acc => by rw [sp2_nil, List.append_nil]⟩
  | _, [c], _ => ⟨[c], [], fun acc => sp2_one acc c⟩
  | n + 1, c :: d :: r, h => by
    simp only [List.length_cons] at h
    by_cases e : c = s ∧ d = t
    · exact ⟨[], sp2 s t [] r, fun acc => by rw [sp2_hit _ _ e, List.append_nil]⟩
    · obtain ⟨f, q, hf⟩ := sp2_acc n (d :: r) (by simp only [List.length_cons]; omega)
      exact ⟨c :: f, q, fun acc => by rw [sp2_miss _ _ e, hf, List.append_assoc]; rfl⟩
theorem sp2_sep (st : s ≠ t) : ∀ (n : Nat) (acc a b : List Nat), a.length ≤ n → sp2 s t acc (a ++ s :: t :: b) = sp2 s t acc a ++ sp2 s t [] b
  | _, acc, [], b, _ => by
    rw [List.nil_append, sp2_hit _ _ ⟨rfl, rfl⟩, sp2_nil]
    rfl
  | _, acc, [c], b, _ => by
    show sp2 s t acc (c :: s :: t :: b) = _
    rw [sp2_miss _ _ (fun z => st z.2), sp2_hit _ _ ⟨rfl, rfl⟩, sp2_one]
    rfl
  | n + 1, acc, c :: d :: r, b, h => by
    simp only [List.length_cons] at h
    show sp2 s t acc (c :: d :: (r ++ s :: t :: b)) = _
    by_cases e : c = s ∧ d = t
    · rw [sp2_hit _ _ e, sp2_hit _ _ e, sp2_sep st n [] r b (by omega)]
      rfl
    · rw [sp2_miss _ _ e, sp2_miss _ _ e]
      exact sp2_sep st n (acc ++ [c]) (d :: r) b (by simp only [List.length_cons]; omega)
theorem sp2_from {m : Nat} (l : List Nat) {acc : List Nat} (h : ∀ p ∈ sp2 s t acc l, p.length ≤ m) : acc.length ≤ m ∧ ∀ p ∈ sp2 s t [] l, p.length ≤ m := by
  obtain ⟨f, r, e⟩ := sp2_acc (s := s) (t := t) l.length l (Nat.le_refl _)
  rw [e] at h
  have h0 := h _ List.mem_cons_self
  rw [List.length_append] at h0
  refine ⟨by omega, fun p hp => ?_⟩
  rw [e] at hp
  rcases List.mem_cons.mp hp with hp | hp
  · rw [hp, List.nil_append]
    omega
  · exact h p (List.mem_cons_of_mem _ hp)
theorem sp2_snd (st : s ≠ t) {B : Nat} (b : List Nat) (h : ∀ p ∈ sp2 s t [] (t :: b), p.length ≤ B) : ∀ p ∈ sp2 s t [] b, p.length ≤ B := by
  cases b with
  | nil =>
    intro p hp
    rw [sp2_nil] at hp
    rw [List.mem_singleton.mp hp]
    exact Nat.zero_le _
  | cons d r =>
    rw [sp2_miss _ _ (fun z => st z.1.symm)] at h
    exact (sp2_from _ h).2
theorem sp2_join (st : s ≠ t) {A B : Nat} : ∀ (n : Nat) (acc a b : List Nat), a.length ≤ n → (∀ p ∈ sp2 s t acc a, p.length ≤ A) → (∀ p ∈ sp2 s t [] b, p.length ≤ B) → ∀ p ∈ sp2 s t acc (a ++ b), p.length ≤ A + B
  | _, acc, [], b, _, ha, hb, p, hp => by
    rw [sp2_nil] at ha
    have h0 := ha _ List.mem_cons_self
    obtain ⟨f, r, e⟩ := sp2_acc (s := s) (t := t) b.length b (Nat.le_refl _)
    rw [List.nil_append, e] at hp
    rw [e] at hb
    rcases List.mem_cons.mp hp with rfl | hp
    · have := hb _ List.mem_cons_self
      rw [List.nil_append] at this
      rw [List.length_append]
      omega
    · have := hb p (List.mem_cons_of_mem _ hp)
      omega
  | _, acc, [c], b, _, ha, hb, p, hp => by
    rw [sp2_one] at ha
    have h0 := ha _ List.mem_cons_self
    have hl : (acc ++ [c]).length = acc.length + 1 := by rw [List.length_append, List.length_singleton]
    cases b with
    | nil =>
      rw [List.append_nil, sp2_one] at hp
      rw [List.mem_singleton.mp hp]
      omega
    | cons d b =>
      have hp : p ∈ sp2 s t acc (c :: d :: b) := hp
      by_cases e : c = s ∧ d = t
      · rw [sp2_hit _ _ e] at hp
        rw [e.2] at hb
        rcases List.mem_cons.mp hp with rfl | hp
        · omega
        · have := sp2_snd st b hb p hp
          omega
      · rw [sp2_miss _ _ e] at hp
        exact sp2_join st 0 (acc ++ [c]) [] (d :: b) (Nat.le_refl _) (fun p hp => by rw [sp2_nil] at hp; rw [List.mem_singleton.mp hp]; exact h0) hb p hp
  | n + 1, acc, c :: d :: r, b, h, ha, hb, p, hp => by
    simp only [List.length_cons] at h
    have hp : p ∈ sp2 s t acc (c :: d :: (r ++ b)) := hp
    by_cases e : c = s ∧ d = t
    · rw [sp2_hit _ _ e] at hp ha
      rcases List.mem_cons.mp hp with rfl | hp
      · have := ha _ List.mem_cons_self
        omega
      · exact sp2_join st n [] r b (by omega) (fun p hp => ha p (List.mem_cons_of_mem _ hp)) hb p hp
    · rw [sp2_miss _ _ e] at hp ha
      exact sp2_join st n (acc ++ [c]) (d :: r) b (by simp only [List.length_cons]; omega) ha hb p hp
theorem sp2_take {m : Nat} : ∀ (n : Nat) (acc l : List Nat) (i : Nat), l.length ≤ n → (∀ p ∈ sp2 s t acc l, p.length ≤ m) → ∀ p ∈ sp2 s t acc (l.take i), p.length ≤ m + 1
  | _, acc, [], i, _, h, p, hp => by
    rw [List.take_nil] at hp
    have := h p hp
    omega
  | _, acc, [c], 0, _, h, p, hp => by
    rw [List.take_zero, sp2_nil] at hp
    rw [List.mem_singleton.mp hp]
    have := (sp2_from _ h).1
    omega
  | _, acc, [c], i + 1, _, h, p, hp => by
    have := h p (by rw [List.take_of_length_le (by simp)] at hp; exact hp)
    omega
  | _, acc, c :: d :: r, 0, _, h, p, hp => by
    rw [List.take_zero, sp2_nil] at hp
    rw [List.mem_singleton.mp hp]
    have := (sp2_from _ h).1
    omega
  | _, acc, c :: d :: r, 1, _, h, p, hp => by
    have hp : p ∈ sp2 s t acc [c] := hp
    rw [sp2_one] at hp
    rw [List.mem_singleton.mp hp, List.length_append, List.length_singleton]
    have := (sp2_from _ h).1
    omega
  | n + 1, acc, c :: d :: r, i + 2, hn, h, p, hp => by
    simp only [List.length_cons] at hn
    have hp : p ∈ sp2 s t acc (c :: d :: r.take i) := hp
    by_cases e : c = s ∧ d = t
    · rw [sp2_hit _ _ e] at hp h
      rcases List.mem_cons.mp hp with rfl | hp
      · have := h _ List.mem_cons_self
        omega
      · exact sp2_take n [] r i (by omega) (fun p hp => h p (List.mem_cons_of_mem _ hp)) p hp
    · rw [sp2_miss _ _ e] at hp h
      exact sp2_take n (acc ++ [c]) (d :: r) (i + 1) (by simp only [List.length_cons]; omega) h p hp
theorem sp2_drop (st : s ≠ t) {m : Nat} : ∀ (n : Nat) (acc l : List Nat) (i : Nat), l.length ≤ n → (∀ p ∈ sp2 s t acc l, p.length ≤ m) → ∀ p ∈ sp2 s t [] (l.drop i), p.length ≤ m + 1
  | _, acc, l, 0, _, h, p, hp => by
    have := (sp2_from l h).2 p hp
    omega
  | _, acc, [], i + 1, _, h, p, hp => by
    rw [List.drop_nil, sp2_nil] at hp
    rw [List.mem_singleton.mp hp]
    exact Nat.zero_le _
  | _, acc, [c], i + 1, _, h, p, hp => by
    rw [List.drop_of_length_le (by simp), sp2_nil] at hp
    rw [List.mem_singleton.mp hp]
    exact Nat.zero_le _
  | _, acc, c :: d :: r, 1, _, h, p, hp => by
    have hp : p ∈ sp2 s t [] (d :: r) := hp
    by_cases e : c = s ∧ d = t
    · rw [sp2_hit _ _ e] at h
      obtain ⟨rfl, rfl⟩ := e
      have h2 : ∀ p ∈ sp2 c d [] r, p.length ≤ m := fun p hp => h p (List.mem_cons_of_mem _ hp)
      obtain ⟨f, q, e⟩ := sp2_acc (s := c) (t := d) r.length r (Nat.le_refl _)
      cases r with
      | nil =>
        rw [sp2_one] at hp
        rw [List.mem_singleton.mp hp]
        show 0 + 1 ≤ m + 1
        omega
      | cons x r =>
        rw [sp2_miss _ _ (fun z => st z.1.symm), e] at hp
        rw [e] at h2
        rcases List.mem_cons.mp hp with rfl | hp
        · have := h2 _ List.mem_cons_self
          rw [List.nil_append] at this
          rw [List.length_append]
          show 0 + 1 + f.length ≤ m + 1
          omega
        · have := h2 p (List.mem_cons_of_mem _ hp)
          omega
    · rw [sp2_miss _ _ e] at h
      have := (sp2_from _ h).2 p hp
      omega
  | n + 1, acc, c :: d :: r, i + 2, hn, h, p, hp => by
    simp only [List.length_cons] at hn
    by_cases e : c = s ∧ d = t
    · rw [sp2_hit _ _ e] at h
      exact sp2_drop st n [] r i (by omega) (fun p hp => h p (List.mem_cons_of_mem _ hp)) p hp
    · rw [sp2_miss _ _ e] at h
      exact sp2_drop st n (acc ++ [c]) (d :: r) (i + 1) (by simp only [List.length_cons]; omega) h p hp
end
theorem semi_ne : (59 : Nat) ≠ 32 := by decide
theorem semi_sp2 (x : Str) : (Txt.split x "; ").map TL.tl = sp2 59 32 [] (TL.tl x) := by
  rw [TL.split_spl x "; " sep_semi.ne (TL.kind_ok sep_semi.lat), tl_semi]
  exact spl_sp2 _ _ _ (Nat.le_refl _)
def Parts (m : Nat) (x : Str) : Prop := ∀ p ∈ Txt.split x "; ", p.length ≤ m
theorem Parts.iff {m : Nat} {x : Str} : Parts m x ↔ ∀ p ∈ sp2 59 32 [] (cd x), p.length ≤ m := by
  have e : (Txt.split x "; ").map TL.tl = sp2 59 32 [] (cd x) := semi_sp2 x
  rw [← e]
  constructor
  · intro h p hp
    obtain ⟨w, hw, rfl⟩ := List.mem_map.mp hp
    rw [← TL.len_tl]
    exact h w hw
  · intro h w hw
    rw [TL.len_tl]
    exact h _ (List.mem_map.mpr ⟨w, hw, rfl⟩)
theorem Parts.sign {m : Nat} {x y : Str} {i j : Nat} {g : List Nat} (h : Parts m x) (hg : g.length ≤ 1) (e : cd y = (cd x).take i ++ g ++ (cd x).drop j) : Parts (2 * m + 3) y := by
  rw [Parts.iff] at h ⊢
  rw [e]
  have h1 := sp2_take _ [] (cd x) i (Nat.le_refl _) h
  have h2 := sp2_drop semi_ne _ [] (cd x) j (Nat.le_refl _) h
  have hgp : ∀ p ∈ sp2 59 32 [] g, p.length ≤ 1 := by
    match g, hg with
    | [], _ => intro p hp; rw [sp2_nil] at hp; rw [List.mem_singleton.mp hp]; exact Nat.zero_le _
    | [c], _ => intro p hp; rw [sp2_one] at hp; rw [List.mem_singleton.mp hp]; exact Nat.le_refl _
  have h3 := sp2_join semi_ne _ [] _ g (Nat.le_refl _) h1 hgp
  intro p hp
  have := sp2_join semi_ne _ [] _ _ (Nat.le_refl _) h3 h2 p hp
  omega
theorem Parts.join {m : Nat} : ∀ {ws : List Str}, (∀ w ∈ ws, Parts m w) → Parts m (Txt.join "; " ws)
  | [], _ => by
    rw [Parts.iff, join_nil]
    intro p hp
    have hp : p ∈ sp2 59 32 [] [] := hp
    rw [sp2_nil] at hp
    rw [List.mem_singleton.mp hp]
    exact Nat.zero_le _
  | [w], h => by
    rw [join_one]
    exact h w List.mem_cons_self
  | w :: v :: r, h => by
    have h1 := Parts.iff.mp (h w List.mem_cons_self)
    have h2 := Parts.iff.mp (Parts.join (ws := v :: r) fun x hx => h x (List.mem_cons_of_mem _ hx))
    rw [Parts.iff, join_cons, cd_app, cd_app, show cd ("; " : Str) = [59, 32] by decide +kernel]
    intro p hp
    rw [List.append_assoc] at hp
    have hp : p ∈ sp2 59 32 [] (cd w ++ 59 :: 32 :: cd (Txt.join "; " (v :: r))) := hp
    rw [sp2_sep semi_ne _ _ _ _ (Nat.le_refl _)] at hp
    rcases List.mem_append.mp hp with hp | hp
    · exact h1 p hp
    · exact h2 p hp
theorem Parts.of_len {m : Nat} {x : Str} (h : x.length ≤ m) : Parts m x := fun p hp => Nat.le_trans (part_len sep_semi hp) h
def Step.known (pl : Plan) : Step → Bool
  | .load n _ _ => decide (n ∈ pl.map (·.1))
  | .col _ n c => pl.any fun e => decide (e.1 = n) && decide (c ∈ e.2.2.map (·.1))
theorem stepB_known {pl : Plan} : ∀ {s : Step}, s.Nice → stepB pl s.d = s.known pl := by
  intro s hn
  rw [Bool.eq_iff_iff]
  constructor
  · intro h
    obtain ⟨s', e, o⟩ := (stepB_step h).ex
    obtain rfl := step_inj _ _ e
    cases s with
    | load n m b => exact decide_eq_true o.1
    | col w n c =>
      obtain ⟨_, e, he, h1, h2⟩ := o
      refine List.any_eq_true.mpr ⟨e, he, ?_⟩
      rw [decide_eq_true h1, decide_eq_true h2]
      rfl
  · intro h
    refine step_stepB (Step.Ok.d ?_)
    cases s with
    | load n m b => exact ⟨of_decide_eq_true h, hn.2⟩
    | col w n c =>
      obtain ⟨e, he, h⟩ := List.any_eq_true.mp h
      simp only [Bool.and_eq_true, decide_eq_true_eq] at h
      exact ⟨hn.1, e, he, h.1, h.2⟩
def ColAt (C : Addr) (H : Hp) (v : V) (e : Ent) : Prop := ∃ t l, v = .ref t ∧ t ≠ C ∧ l ≠ C ∧ H t = some (.tup [.str e.1, .ref l]) ∧ H l = some (.lst ((e.2.2.map (·.1)).map V.str))
theorem ColAt.same {C : Addr} {H H' : Hp} {v : V} {e : Ent} (h : ColAt C H v e) (s : Same H H') : ColAt C H' v e := by
  obtain ⟨t, l, rfl, n1, n2, h1, h2⟩ := h
  exact ⟨t, l, rfl, n1, n2, s _ _ h1, s _ _ h2⟩
theorem ColAt.upd {C : Addr} {H : Hp} {v : V} {e : Ent} {o : HO} (h : ColAt C H v e) : ColAt C (upd H C o) v e := by
  obtain ⟨t, l, rfl, n1, n2, h1, h2⟩ := h
  exact ⟨t, l, rfl, n1, n2, by rw [upd_ne n1]; exact h1, by rw [upd_ne n2]; exact h2⟩
end My
namespace My
open PySem L2
def top (i : Nat) : Stmt := PySem.Challenge.pw_carrykeys_k53_script_texts_refused.main.body.getD i (.Pass ⟨0, 0, 0, 0⟩)
abbrev s_CarryError_init : Stmt := inClass (top 2) 0
abbrev s_NoSchema_init : Stmt := inClass (top 10) 0
abbrev s_NoStep_init : Stmt := inClass (top 17) 0
abbrev s_NoText_init : Stmt := inClass (top 20) 0
abbrev s_law_cell_at : Stmt := top 57
abbrev s_law_store : Stmt := top 58
abbrev s_law_draw : Stmt := top 59
abbrev s_law_name : Stmt := top 60
abbrev s_law_tables : Stmt := top 61
abbrev s_law_step : Stmt := top 62
abbrev s_is_one_of : Stmt := top 28
abbrev s_is_flag : Stmt := top 27
abbrev s_is_name : Stmt := top 29
abbrev s_is_reference : Stmt := top 34
abbrev s_are_distinct : Stmt := top 35
abbrev s_are_references : Stmt := top 33
abbrev s_is_table : Stmt := top 32
abbrev s_are_tables : Stmt := top 30
abbrev s_refer_within : Stmt := top 31
abbrev s_Schema_init : Stmt := inClass (top 37) 0
abbrev s_Schema_tables : Stmt := inClass (top 37) 2
abbrev s_Schema_all_columns : Stmt := inClass (top 37) 6
abbrev s_is_load_scripts : Stmt := top 44
abbrev s_is_column_step_scripts : Stmt := top 46
abbrev s_is_step : Stmt := top 43
abbrev s_Script_init : Stmt := inClass (top 42) 0
abbrev s_Script_kept : Stmt := inClass (top 42) 6
abbrev s_Script_steps : Stmt := inClass (top 42) 7
abbrev s_parts : Stmt := top 50
abbrev s_is_load_texts : Stmt := top 51
abbrev s_is_column_step_texts : Stmt := top 53
abbrev s_step : Stmt := top 55
abbrev s_read_script : Stmt := top 49
abbrev s_law_text : Stmt := top 63
abbrev s_law_is_name : Stmt := top 64
abbrev s_law_part : Stmt := top 65
abbrev s_law_others : Stmt := top 67
abbrev s_law_told : Stmt := top 68
abbrev s_law_word : Stmt := top 69
abbrev s_law_words_spoilt : Stmt := top 70
abbrev s_law_spoilt : Stmt := top 71
abbrev s_law_due : Stmt := top 66
abbrev s_law : Stmt := top 72
theorem sc_CarryError_init : FnScope ["self", "words"] ["self", "words"] (defScope s_CarryError_init) := ⟨rfl, rfl, rfl, by decide +kernel, rfl, by decide +kernel, by decide +kernel⟩
theorem sc_NoSchema_init : FnScope ["self", "part"] ["self", "part"] (defScope s_NoSchema_init) := ⟨rfl, rfl, rfl, by decide +kernel, rfl, by decide +kernel, by decide +kernel⟩
theorem sc_NoStep_init : FnScope ["self", "index"] ["self", "index"] (defScope s_NoStep_init) := ⟨rfl, rfl, rfl, by decide +kernel, rfl, by decide +kernel, by decide +kernel⟩
theorem sc_NoText_init : FnScope ["self", "part"] ["self", "part"] (defScope s_NoText_init) := ⟨rfl, rfl, rfl, by decide +kernel, rfl, by decide +kernel, by decide +kernel⟩
theorem sc_law_cell_at : FnScope ["script", "k"] ["script", "k"] (defScope s_law_cell_at) := ⟨rfl, rfl, rfl, by decide +kernel, rfl, by decide +kernel, by decide +kernel⟩
theorem sc_law_store : FnScope ["cell"] ["cell"] (defScope s_law_store) := ⟨rfl, rfl, rfl, by decide +kernel, rfl, by decide +kernel, by decide +kernel⟩
theorem sc_law_draw : FnScope ["store", "many", "mixed", "digit"] ["store", "many"] (defScope s_law_draw) := ⟨rfl, rfl, rfl, by decide +kernel, rfl, by decide +kernel, by decide +kernel⟩
theorem sc_law_name : FnScope ["store", "taken", "letters", "style", "name", "at", "letter", "middle", "words", "k"] ["store", "taken"] (defScope s_law_name) := ⟨rfl, rfl, rfl, by decide +kernel, rfl, by decide +kernel, by decide +kernel⟩
theorem sc_law_tables : FnScope ["store", "names", "k", "tables", "name", "columns", "references", "column"] ["store"] (defScope s_law_tables) := ⟨rfl, rfl, rfl, by decide +kernel, rfl, by decide +kernel, by decide +kernel⟩
theorem sc_law_step : FnScope ["store", "tables", "name", "unique", "references", "way"] ["store", "tables"] (defScope s_law_step) := ⟨rfl, rfl, rfl, by decide +kernel, rfl, by decide +kernel, by decide +kernel⟩
theorem sc_is_one_of : FnScope ["value", "words"] ["value", "words"] (defScope s_is_one_of) := ⟨rfl, rfl, rfl, by decide +kernel, rfl, by decide +kernel, by decide +kernel⟩
theorem sc_is_flag : FnScope ["value"] ["value"] (defScope s_is_flag) := ⟨rfl, rfl, rfl, by decide +kernel, rfl, by decide +kernel, by decide +kernel⟩
theorem sc_is_name : FnScope ["value", "letter"] ["value"] (defScope s_is_name) := ⟨rfl, rfl, rfl, by decide +kernel, rfl, by decide +kernel, by decide +kernel⟩
theorem sc_is_reference : FnScope ["value", "column", "target"] ["value"] (defScope s_is_reference) := ⟨rfl, rfl, rfl, by decide +kernel, rfl, by decide +kernel, by decide +kernel⟩
theorem sc_are_distinct : FnScope ["names"] ["names"] (defScope s_are_distinct) := ⟨rfl, rfl, rfl, by decide +kernel, rfl, by decide +kernel, by decide +kernel⟩
theorem sc_are_references : FnScope ["value", "item"] ["value"] (defScope s_are_references) := ⟨rfl, rfl, rfl, by decide +kernel, rfl, by decide +kernel, by decide +kernel⟩
theorem sc_is_table : FnScope ["value", "name", "unique", "references"] ["value"] (defScope s_is_table) := ⟨rfl, rfl, rfl, by decide +kernel, rfl, by decide +kernel, by decide +kernel⟩
theorem sc_are_tables : FnScope ["value", "item"] ["value"] (defScope s_are_tables) := ⟨rfl, rfl, rfl, by decide +kernel, rfl, by decide +kernel, by decide +kernel⟩
theorem sc_refer_within : FnScope ["tables", "names", "item", "_", "target"] ["tables"] (defScope s_refer_within) := ⟨rfl, rfl, rfl, by decide +kernel, rfl, by decide +kernel, by decide +kernel⟩
theorem sc_Schema_init : FnScope ["self", "tables", "entry"] ["self", "tables"] (defScope s_Schema_init) := ⟨rfl, rfl, rfl, by decide +kernel, rfl, by decide +kernel, by decide +kernel⟩
theorem sc_Schema_tables : FnScope ["self"] ["self"] (defScope s_Schema_tables) := ⟨rfl, rfl, rfl, by decide +kernel, rfl, by decide +kernel, by decide +kernel⟩
theorem sc_Schema_all_columns : FnScope ["self", "entry", "column", "_"] ["self"] (defScope s_Schema_all_columns) := ⟨rfl, rfl, rfl, by decide +kernel, rfl, by decide +kernel, by decide +kernel⟩
theorem sc_is_load_scripts : FnScope ["schema", "value", "word", "table", "missing", "matching", "entry"] ["schema", "value"] (defScope s_is_load_scripts) := ⟨rfl, rfl, rfl, by decide +kernel, rfl, by decide +kernel, by decide +kernel⟩
theorem sc_is_column_step_scripts : FnScope ["schema", "value", "word", "table", "column"] ["schema", "value"] (defScope s_is_column_step_scripts) := ⟨rfl, rfl, rfl, by decide +kernel, rfl, by decide +kernel, by decide +kernel⟩
theorem sc_is_step : FnScope ["schema", "value"] ["schema", "value"] (defScope s_is_step) := ⟨rfl, rfl, rfl, by decide +kernel, rfl, by decide +kernel, by decide +kernel⟩
theorem sc_Script_init : FnScope ["self", "schema", "steps", "kept", "index", "step"] ["self", "schema", "steps", "kept"] (defScope s_Script_init) := ⟨rfl, rfl, rfl, by decide +kernel, rfl, by decide +kernel, by decide +kernel⟩
theorem sc_Script_kept : FnScope ["self"] ["self"] (defScope s_Script_kept) := ⟨rfl, rfl, rfl, by decide +kernel, rfl, by decide +kernel, by decide +kernel⟩
theorem sc_Script_steps : FnScope ["self"] ["self"] (defScope s_Script_steps) := ⟨rfl, rfl, rfl, by decide +kernel, rfl, by decide +kernel, by decide +kernel⟩
theorem sc_parts : FnScope ["text", "separator"] ["text", "separator"] (defScope s_parts) := ⟨rfl, rfl, rfl, by decide +kernel, rfl, by decide +kernel, by decide +kernel⟩
theorem sc_is_load_texts : FnScope ["words"] ["words"] (defScope s_is_load_texts) := ⟨rfl, rfl, rfl, by decide +kernel, rfl, by decide +kernel, by decide +kernel⟩
theorem sc_is_column_step_texts : FnScope ["words"] ["words"] (defScope s_is_column_step_texts) := ⟨rfl, rfl, rfl, by decide +kernel, rfl, by decide +kernel, by decide +kernel⟩
theorem sc_step : FnScope ["words"] ["words"] (defScope s_step) := ⟨rfl, rfl, rfl, by decide +kernel, rfl, by decide +kernel, by decide +kernel⟩
theorem sc_read_script : FnScope ["schema", "text", "parts", "steps", "at", "part", "words"] ["schema", "text"] (defScope s_read_script) := ⟨rfl, rfl, rfl, by decide +kernel, rfl, by decide +kernel, by decide +kernel⟩
theorem sc_law_text : FnScope ["row", "flag", "written", "step"] ["row", "flag"] (defScope s_law_text) := ⟨rfl, rfl, rfl, by decide +kernel, rfl, by decide +kernel, by decide +kernel⟩
theorem sc_law_is_name : FnScope ["word", "letter"] ["word"] (defScope s_law_is_name) := ⟨rfl, rfl, rfl, by decide +kernel, rfl, by decide +kernel, by decide +kernel⟩
theorem sc_law_part : FnScope ["part", "words"] ["part"] (defScope s_law_part) := ⟨rfl, rfl, rfl, by decide +kernel, rfl, by decide +kernel, by decide +kernel⟩
theorem sc_law_others : FnScope ["e"] ["e"] (defScope s_law_others) := ⟨rfl, rfl, rfl, by decide +kernel, rfl, by decide +kernel, by decide +kernel⟩
theorem sc_law_told : FnScope ["frame", "written", "told", "made", "e", "odd"] ["frame", "written"] (defScope s_law_told) := ⟨rfl, rfl, rfl, by decide +kernel, rfl, by decide +kernel, by decide +kernel⟩
theorem sc_law_word : FnScope ["store", "tables", "words", "name", "unique", "references", "column", "other"] ["store", "tables"] (defScope s_law_word) := ⟨rfl, rfl, rfl, by decide +kernel, rfl, by decide +kernel, by decide +kernel⟩
theorem sc_law_words_spoilt : FnScope ["store", "tables", "part", "words", "at", "way"] ["store", "tables", "part"] (defScope s_law_words_spoilt) := ⟨rfl, rfl, rfl, by decide +kernel, rfl, by decide +kernel, by decide +kernel⟩
theorem sc_law_spoilt : FnScope ["store", "tables", "written", "parts", "at", "k", "way", "rest", "sign", "n"] ["store", "tables", "written"] (defScope s_law_spoilt) := ⟨rfl, rfl, rfl, by decide +kernel, rfl, by decide +kernel, by decide +kernel⟩
theorem sc_law_due : FnScope ["tables", "written", "parts", "steps_there", "k", "columns", "name", "unique", "references", "step", "found", "part", "row", "column", "other"] ["tables", "written"] (defScope s_law_due) := ⟨rfl, rfl, rfl, by decide +kernel, rfl, by decide +kernel, by decide +kernel⟩
theorem sc_law : FnScope ["script", "tables", "frame", "row", "flag", "good", "cell", "store", "written", "due", "k"] ["script"] (defScope s_law) := ⟨rfl, rfl, rfl, by decide +kernel, rfl, by decide +kernel, by decide +kernel⟩
structure Txt (K : PySem.W.Frag) (mg : Str → Option Value) (CS CP XCarryError XNoSchema XNoStep XNoText XNoKept XMissing XNoColumn XNoFlag XNoKey XNoRow XNoStops XNoStrokes XNoTable XNotClosed XNothingBegun XNotSafe XNotSame XRefused XTaken XT_MISSING_WORDS XT_COLUMN_STEPS : Addr) : Prop where
  c_Schema : ClassAt K mg CS "Schema"
  a_Schema_tables : NoAttr K CS "_tables"
  a_Schema_entries : NoAttr K CS "_entries"
  c_Script : ClassAt K mg CP "Script"
  a_Script_schema : NoAttr K CP "_schema"
  a_Script_steps : NoAttr K CP "_steps"
  a_Script_kept : NoAttr K CP "_kept"
  b_CarryError : BaseAt K mg XCarryError "CarryError"
  e_NoSchema : ErrAt K mg XNoSchema "NoSchema" ["part"]
  e_NoStep : ErrAt K mg XNoStep "NoStep" ["index"]
  e_NoText : ErrAt K mg XNoText "NoText" ["part"]
  e_NoKept : ErrAt K mg XNoKept "NoKept" []
  h_NoKept : PySem.W.findIn K (.ref XNoKept) "__init__" = PySem.W.findIn K (.ref XCarryError) "__init__"
  m_Missing : mg "Missing" = some (.ref XMissing)
  m_NoColumn : mg "NoColumn" = some (.ref XNoColumn)
  m_NoFlag : mg "NoFlag" = some (.ref XNoFlag)
  m_NoKey : mg "NoKey" = some (.ref XNoKey)
  m_NoRow : mg "NoRow" = some (.ref XNoRow)
  m_NoStops : mg "NoStops" = some (.ref XNoStops)
  m_NoStrokes : mg "NoStrokes" = some (.ref XNoStrokes)
  m_NoTable : mg "NoTable" = some (.ref XNoTable)
  m_NotClosed : mg "NotClosed" = some (.ref XNotClosed)
  m_NothingBegun : mg "NothingBegun" = some (.ref XNothingBegun)
  m_NotSafe : mg "NotSafe" = some (.ref XNotSafe)
  m_NotSame : mg "NotSame" = some (.ref XNotSame)
  m_Refused : mg "Refused" = some (.ref XRefused)
  m_Taken : mg "Taken" = some (.ref XTaken)
  o_NoText_CarryError : PySem.W.kitOne K (.ref XNoText) (.ref XCarryError) = some true
  o_NoStep_CarryError : PySem.W.kitOne K (.ref XNoStep) (.ref XCarryError) = some true
  o_NoText_ValueError : PySem.W.kitOne K (.ref XNoText) (.type "ValueError") = some true
  o_NoStep_ValueError : PySem.W.kitOne K (.ref XNoStep) (.type "ValueError") = some true
  o_NoText_NoStep : PySem.W.kitOne K (.ref XNoText) (.ref XNoStep) = some false
  o_NoStep_NoText : PySem.W.kitOne K (.ref XNoStep) (.ref XNoText) = some false
  o_NoText_Missing : PySem.W.kitOne K (.ref XNoText) (.ref XMissing) = some false
  o_NoText_NoColumn : PySem.W.kitOne K (.ref XNoText) (.ref XNoColumn) = some false
  o_NoText_NoFlag : PySem.W.kitOne K (.ref XNoText) (.ref XNoFlag) = some false
  o_NoText_NoKey : PySem.W.kitOne K (.ref XNoText) (.ref XNoKey) = some false
  o_NoText_NoRow : PySem.W.kitOne K (.ref XNoText) (.ref XNoRow) = some false
  o_NoText_NoSchema : PySem.W.kitOne K (.ref XNoText) (.ref XNoSchema) = some false
  o_NoText_NoStops : PySem.W.kitOne K (.ref XNoText) (.ref XNoStops) = some false
  o_NoText_NoStrokes : PySem.W.kitOne K (.ref XNoText) (.ref XNoStrokes) = some false
  o_NoText_NoTable : PySem.W.kitOne K (.ref XNoText) (.ref XNoTable) = some false
  o_NoText_NotClosed : PySem.W.kitOne K (.ref XNoText) (.ref XNotClosed) = some false
  o_NoText_NothingBegun : PySem.W.kitOne K (.ref XNoText) (.ref XNothingBegun) = some false
  o_NoText_NotSafe : PySem.W.kitOne K (.ref XNoText) (.ref XNotSafe) = some false
  o_NoText_NotSame : PySem.W.kitOne K (.ref XNoText) (.ref XNotSame) = some false
  o_NoText_Refused : PySem.W.kitOne K (.ref XNoText) (.ref XRefused) = some false
  o_NoText_Taken : PySem.W.kitOne K (.ref XNoText) (.ref XTaken) = some false
  o_NoText_NoKept : PySem.W.kitOne K (.ref XNoText) (.ref XNoKept) = some false
  o_NoStep_Missing : PySem.W.kitOne K (.ref XNoStep) (.ref XMissing) = some false
  o_NoStep_NoColumn : PySem.W.kitOne K (.ref XNoStep) (.ref XNoColumn) = some false
  o_NoStep_NoFlag : PySem.W.kitOne K (.ref XNoStep) (.ref XNoFlag) = some false
  o_NoStep_NoKey : PySem.W.kitOne K (.ref XNoStep) (.ref XNoKey) = some false
  o_NoStep_NoRow : PySem.W.kitOne K (.ref XNoStep) (.ref XNoRow) = some false
  o_NoStep_NoSchema : PySem.W.kitOne K (.ref XNoStep) (.ref XNoSchema) = some false
  o_NoStep_NoStops : PySem.W.kitOne K (.ref XNoStep) (.ref XNoStops) = some false
  o_NoStep_NoStrokes : PySem.W.kitOne K (.ref XNoStep) (.ref XNoStrokes) = some false
  o_NoStep_NoTable : PySem.W.kitOne K (.ref XNoStep) (.ref XNoTable) = some false
  o_NoStep_NotClosed : PySem.W.kitOne K (.ref XNoStep) (.ref XNotClosed) = some false
  o_NoStep_NothingBegun : PySem.W.kitOne K (.ref XNoStep) (.ref XNothingBegun) = some false
  o_NoStep_NotSafe : PySem.W.kitOne K (.ref XNoStep) (.ref XNotSafe) = some false
  o_NoStep_NotSame : PySem.W.kitOne K (.ref XNoStep) (.ref XNotSame) = some false
  o_NoStep_Refused : PySem.W.kitOne K (.ref XNoStep) (.ref XRefused) = some false
  o_NoStep_Taken : PySem.W.kitOne K (.ref XNoStep) (.ref XTaken) = some false
  o_NoStep_NoKept : PySem.W.kitOne K (.ref XNoStep) (.ref XNoKept) = some false
  xc_NoText : ExcC K XNoText
  xc_NoStep : ExcC K XNoStep
  s_NoText_NoText : PySem.W.subIn K (.ref XNoText) (.ref XNoText) = some true
  s_NoStep_NoStep : PySem.W.subIn K (.ref XNoStep) (.ref XNoStep) = some true
  s_NoStep_NoText : PySem.W.subIn K (.ref XNoStep) (.ref XNoText) = some false
  ve : PySem.W.findCls K (.type "ValueError") (.type "type") "__init__" = some (.val (.builtin "ValueError.__init__"))
  i_Schema : IsC K CS
  i_Script : IsC K CP
  t_MISSING_WORDS : mg "MISSING_WORDS" = some (.ref XT_MISSING_WORDS)
  w_MISSING_WORDS : ∀ H, SqT K H XT_MISSING_WORDS [.str "raw", .str "blank", .str "refuse"]
  t_COLUMN_STEPS : mg "COLUMN_STEPS" = some (.ref XT_COLUMN_STEPS)
  w_COLUMN_STEPS : ∀ H, SqT K H XT_COLUMN_STEPS [.str "patch", .str "fill", .str "sweep"]
  d_CarryError_init : MethAt K XCarryError "__init__" "CarryError.__init__" s_CarryError_init ["self", "words"]
  d_NoSchema_init : MethAt K XNoSchema "__init__" "NoSchema.__init__" s_NoSchema_init ["self", "part"]
  d_NoStep_init : MethAt K XNoStep "__init__" "NoStep.__init__" s_NoStep_init ["self", "index"]
  d_NoText_init : MethAt K XNoText "__init__" "NoText.__init__" s_NoText_init ["self", "part"]
  d_law_cell_at : DefAt K mg "_law_cell_at" s_law_cell_at ["script", "k"]
  d_law_store : DefAt K mg "_law_store" s_law_store ["cell"]
  d_law_draw : DefAt K mg "_law_draw" s_law_draw ["store", "many"]
  d_law_name : DefAt K mg "_law_name" s_law_name ["store", "taken"]
  d_law_tables : DefAt K mg "_law_tables" s_law_tables ["store"]
  d_law_step : DefAt K mg "_law_step" s_law_step ["store", "tables"]
  d_is_one_of : DefAt K mg "is_one_of" s_is_one_of ["value", "words"]
  d_is_flag : DefAt K mg "is_flag" s_is_flag ["value"]
  d_is_name : DefAt K mg "is_name" s_is_name ["value"]
  d_is_reference : DefAt K mg "_is_reference" s_is_reference ["value"]
  d_are_distinct : DefAt K mg "_are_distinct" s_are_distinct ["names"]
  d_are_references : DefAt K mg "_are_references" s_are_references ["value"]
  d_is_table : DefAt K mg "_is_table" s_is_table ["value"]
  d_are_tables : DefAt K mg "are_tables" s_are_tables ["value"]
  d_refer_within : DefAt K mg "refer_within" s_refer_within ["tables"]
  d_Schema_init : MethAt K CS "__init__" "Schema.__init__" s_Schema_init ["self", "tables"]
  d_Schema_tables : MethAt K CS "tables" "Schema.tables" s_Schema_tables ["self"]
  d_Schema_all_columns : MethAt K CS "all_columns" "Schema.all_columns" s_Schema_all_columns ["self"]
  d_is_load_scripts : DefN K mg "is_load_scripts" "_is_load" s_is_load_scripts ["schema", "value"]
  d_is_column_step_scripts : DefN K mg "is_column_step_scripts" "_is_column_step" s_is_column_step_scripts ["schema", "value"]
  d_is_step : DefAt K mg "_is_step" s_is_step ["schema", "value"]
  d_Script_init : MethDAt K CP "__init__" "Script.__init__" s_Script_init ["self", "schema", "steps", "kept"] [.bl true]
  d_Script_kept : PropAt K CP "kept" "Script.kept" s_Script_kept ["self"]
  d_Script_steps : MethAt K CP "steps" "Script.steps" s_Script_steps ["self"]
  d_parts : DefAt K mg "_parts" s_parts ["text", "separator"]
  d_is_load_texts : DefN K mg "is_load_texts" "_is_load" s_is_load_texts ["words"]
  d_is_column_step_texts : DefN K mg "is_column_step_texts" "_is_column_step" s_is_column_step_texts ["words"]
  d_step : DefAt K mg "_step" s_step ["words"]
  d_read_script : DefAt K mg "read_script" s_read_script ["schema", "text"]
  d_law_text : DefAt K mg "_law_text" s_law_text ["row", "flag"]
  d_law_is_name : DefAt K mg "_law_is_name" s_law_is_name ["word"]
  d_law_part : DefAt K mg "_law_part" s_law_part ["part"]
  d_law_others : DefAt K mg "_law_others" s_law_others ["e"]
  d_law_told : DefAt K mg "_law_told" s_law_told ["frame", "written"]
  d_law_word : DefAt K mg "_law_word" s_law_word ["store", "tables"]
  d_law_words_spoilt : DefAt K mg "_law_words_spoilt" s_law_words_spoilt ["store", "tables", "part"]
  d_law_spoilt : DefAt K mg "_law_spoilt" s_law_spoilt ["store", "tables", "written"]
  d_law_due : DefAt K mg "_law_due" s_law_due ["tables", "written"]
  d_law : DefAt K mg "law" s_law ["script"]
  v_LETTERS : ∃ u, mg "LETTERS" = some u ∧ RelV (.str "abcdefghijklmnopqrstuvwxyz") u
  v_LONGEST_NAME : ∃ u, mg "LONGEST_NAME" = some u ∧ RelV (.int 8) u
  v_MOST_TABLES : ∃ u, mg "MOST_TABLES" = some u ∧ RelV (.int 5) u
  v_MOST_REFERENCES : ∃ u, mg "MOST_REFERENCES" = some u ∧ RelV (.int 3) u
  v_MOST_STEPS : ∃ u, mg "MOST_STEPS" = some u ∧ RelV (.int 20) u
  n_len : mg "len" = none
  n_range : mg "range" = none
  n_int : mg "int" = none
  n_tuple : mg "tuple" = none
  n_isinstance : mg "isinstance" = none
  n_str : mg "str" = none
  n_bool : mg "bool" = none
  n_list : mg "list" = none
  n_all : mg "all" = none
  n_set : mg "set" = none
  n_max : mg "max" = none
  n_enumerate : mg "enumerate" = none
  n_ValueError : mg "ValueError" = none
end My
namespace My
open PySem L2
theorem len_CarryError_init {K : PySem.W.Frag} : ∀ vs H Q E, spBaseK K vs H Q E → vs.length = ["self", "words"].length := by
  rintro vs H Q E ⟨a, C, w, rfl, _⟩
  rfl
theorem body_CarryError_init {k : Nat} {P : Program} {w : World} {K : PySem.W.Frag} {mg : Str → Option Value} {base : Heap} {CS CP XCarryError XNoSchema XNoStep XNoText XNoKept XMissing XNoColumn XNoFlag XNoKey XNoRow XNoStops XNoStrokes XNoTable XNotClosed XNothingBegun XNotSafe XNotSame XRefused XTaken XT_MISSING_WORDS XT_COLUMN_STEPS : Addr} (T : Txt K mg CS CP XCarryError XNoSchema XNoStep XNoText XNoKept XMissing XNoColumn XNoFlag XNoKey XNoRow XNoStops XNoStrokes XNoTable XNotClosed XNothingBegun XNotSafe XNotSame XRefused XTaken XT_MISSING_WORDS XT_COLUMN_STEPS) : BodyOk P w K mg base k ["self", "words"] "CarryError.__init__" s_CarryError_init (spBaseK K) := by
  intro f cdv A outer s H vs Q E hr h
  · obtain ⟨a, C, w, rfl, hx, ha, q⟩ := h
    refine ⟨_, (pss_one (ps_expr (pe_veinit rfl T.n_ValueError T.ve (pa_cons (pv 0) (pa_cons (pv 1) pa_nil))))), ?_⟩
    exact ⟨_, rfl, _, rfl, a, C, [w], rfl, (by show 1 ≤ 1000; decide), hx, ha, q⟩
theorem ok_CarryError_init {P : Program} {w : World} {K : PySem.W.Frag} {mg : Str → Option Value} {base : Heap} {CS CP XCarryError XNoSchema XNoStep XNoText XNoKept XMissing XNoColumn XNoFlag XNoKey XNoRow XNoStops XNoStrokes XNoTable XNotClosed XNothingBegun XNotSafe XNotSame XRefused XTaken XT_MISSING_WORDS XT_COLUMN_STEPS : Addr} (T : Txt K mg CS CP XCarryError XNoSchema XNoStep XNoText XNoKept XMissing XNoColumn XNoFlag XNoKey XNoRow XNoStops XNoStrokes XNoTable XNotClosed XNothingBegun XNotSafe XNotSame XRefused XTaken XT_MISSING_WORDS XT_COLUMN_STEPS) : InitOk P w K mg base 1 XCarryError "CarryError" (spBaseK K) :=
  T.d_CarryError_init.init T.b_CarryError sc_CarryError_init len_CarryError_init (body_CarryError_init T)
end My
namespace My
open PySem L2
theorem ok_NoSchema_init {P : Program} {w : World} {K : PySem.W.Frag} {mg : Str → Option Value} {base : Heap} {CS CP XCarryError XNoSchema XNoStep XNoText XNoKept XMissing XNoColumn XNoFlag XNoKey XNoRow XNoStops XNoStrokes XNoTable XNotClosed XNothingBegun XNotSafe XNotSame XRefused XTaken XT_MISSING_WORDS XT_COLUMN_STEPS : Addr} (T : Txt K mg CS CP XCarryError XNoSchema XNoStep XNoText XNoKept XMissing XNoColumn XNoFlag XNoKey XNoRow XNoStops XNoStrokes XNoTable XNotClosed XNothingBegun XNotSafe XNotSame XRefused XTaken XT_MISSING_WORDS XT_COLUMN_STEPS) : ErrOk P w K mg base 3 XNoSchema "NoSchema" ["part"] := by
  have c_CarryError_init__ := ok_CarryError_init (P := P) (w := w) (base := base) T
  refine T.d_NoSchema_init.err T.e_NoSchema sc_NoSchema_init (fun vs H Q E h => ?_) (fun f cdv A outer s H vs Q E hr h => ?_)
  · obtain ⟨a, ys, rfl, hl, _⟩ := h
    simpa using hl
  · obtain ⟨a, ys, rfl, hl, ha, q⟩ := h
    obtain ⟨y0, rfl⟩ : ∃ y0, ys = [y0] := by
      match ys, hl with
      | [y0], _ => exact ⟨y0, rfl⟩
    refine ⟨_, (pss_cons (ps_expr (pe_cinit c_CarryError_init__ (hr.mono (by decide)) (pa_cons (pv 0) (pa_cons pe_str pa_nil))))
      (pss_one (ps_ost (pv 0) (pv 1)))), ?_⟩
    refine ⟨_, rfl, a, XNoSchema, .str _, rfl, T.e_NoSchema.ox, ha, ?_⟩
    refine ⟨_, rfl, _, rfl, a, XNoSchema, rfl, T.e_NoSchema.ox, T.e_NoSchema.no _ (by simp), .inl ⟨ha, fun dx hdx ndx => ?_⟩⟩
    exact q dx hdx ndx
end My
namespace My
open PySem L2
theorem ok_NoStep_init {P : Program} {w : World} {K : PySem.W.Frag} {mg : Str → Option Value} {base : Heap} {CS CP XCarryError XNoSchema XNoStep XNoText XNoKept XMissing XNoColumn XNoFlag XNoKey XNoRow XNoStops XNoStrokes XNoTable XNotClosed XNothingBegun XNotSafe XNotSame XRefused XTaken XT_MISSING_WORDS XT_COLUMN_STEPS : Addr} (T : Txt K mg CS CP XCarryError XNoSchema XNoStep XNoText XNoKept XMissing XNoColumn XNoFlag XNoKey XNoRow XNoStops XNoStrokes XNoTable XNotClosed XNothingBegun XNotSafe XNotSame XRefused XTaken XT_MISSING_WORDS XT_COLUMN_STEPS) : ErrOk P w K mg base 3 XNoStep "NoStep" ["index"] := by
  have c_CarryError_init__ := ok_CarryError_init (P := P) (w := w) (base := base) T
  refine T.d_NoStep_init.err T.e_NoStep sc_NoStep_init (fun vs H Q E h => ?_) (fun f cdv A outer s H vs Q E hr h => ?_)
  · obtain ⟨a, ys, rfl, hl, _⟩ := h
    simpa using hl
  · obtain ⟨a, ys, rfl, hl, ha, q⟩ := h
    obtain ⟨y0, rfl⟩ : ∃ y0, ys = [y0] := by
      match ys, hl with
      | [y0], _ => exact ⟨y0, rfl⟩
    refine ⟨_, (pss_cons (ps_expr (pe_cinit c_CarryError_init__ (hr.mono (by decide)) (pa_cons (pv 0) (pa_cons pe_str pa_nil))))
      (pss_one (ps_ost (pv 0) (pv 1)))), ?_⟩
    refine ⟨_, rfl, a, XNoStep, .str _, rfl, T.e_NoStep.ox, ha, ?_⟩
    refine ⟨_, rfl, _, rfl, a, XNoStep, rfl, T.e_NoStep.ox, T.e_NoStep.no _ (by simp), .inl ⟨ha, fun dx hdx ndx => ?_⟩⟩
    exact q dx hdx ndx
end My
namespace My
open PySem L2
theorem ok_NoText_init {P : Program} {w : World} {K : PySem.W.Frag} {mg : Str → Option Value} {base : Heap} {CS CP XCarryError XNoSchema XNoStep XNoText XNoKept XMissing XNoColumn XNoFlag XNoKey XNoRow XNoStops XNoStrokes XNoTable XNotClosed XNothingBegun XNotSafe XNotSame XRefused XTaken XT_MISSING_WORDS XT_COLUMN_STEPS : Addr} (T : Txt K mg CS CP XCarryError XNoSchema XNoStep XNoText XNoKept XMissing XNoColumn XNoFlag XNoKey XNoRow XNoStops XNoStrokes XNoTable XNotClosed XNothingBegun XNotSafe XNotSame XRefused XTaken XT_MISSING_WORDS XT_COLUMN_STEPS) : ErrOk P w K mg base 3 XNoText "NoText" ["part"] := by
  have c_CarryError_init__ := ok_CarryError_init (P := P) (w := w) (base := base) T
  refine T.d_NoText_init.err T.e_NoText sc_NoText_init (fun vs H Q E h => ?_) (fun f cdv A outer s H vs Q E hr h => ?_)
  · obtain ⟨a, ys, rfl, hl, _⟩ := h
    simpa using hl
  · obtain ⟨a, ys, rfl, hl, ha, q⟩ := h
    obtain ⟨y0, rfl⟩ : ∃ y0, ys = [y0] := by
      match ys, hl with
      | [y0], _ => exact ⟨y0, rfl⟩
    refine ⟨_, (pss_cons (ps_expr (pe_cinit c_CarryError_init__ (hr.mono (by decide)) (pa_cons (pv 0) (pa_cons pe_str pa_nil))))
      (pss_one (ps_ost (pv 0) (pv 1)))), ?_⟩
    refine ⟨_, rfl, a, XNoText, .str _, rfl, T.e_NoText.ox, ha, ?_⟩
    refine ⟨_, rfl, _, rfl, a, XNoText, rfl, T.e_NoText.ox, T.e_NoText.no _ (by simp), .inl ⟨ha, fun dx hdx ndx => ?_⟩⟩
    exact q dx hdx ndx
end My
namespace My
open PySem L2
def spAt (K : PySem.W.Frag) : Sp := fun vs H Q _ => ∃ (a : Addr) (ns : List Int) (k : Nat), vs = [.ref a, .int k] ∧ SqL K H a (ns.map V.int) ∧ ∀ z : Int, Q (.int z) H
theorem ok_law_cell_at {P : Program} {w : World} {K : PySem.W.Frag} {mg : Str → Option Value} {base : Heap} {CS CP XCarryError XNoSchema XNoStep XNoText XNoKept XMissing XNoColumn XNoFlag XNoKey XNoRow XNoStops XNoStrokes XNoTable XNotClosed XNothingBegun XNotSafe XNotSame XRefused XTaken XT_MISSING_WORDS XT_COLUMN_STEPS : Addr} (T : Txt K mg CS CP XCarryError XNoSchema XNoStep XNoText XNoKept XMissing XNoColumn XNoFlag XNoKey XNoRow XNoStops XNoStrokes XNoTable XNotClosed XNothingBegun XNotSafe XNotSame XRefused XTaken XT_MISSING_WORDS XT_COLUMN_STEPS) : CallOk P w K mg base 1 "_law_cell_at" (spAt K) := by
  refine T.d_law_cell_at.ok sc_law_cell_at (fun vs H Q E h => ?_) (fun f cdv A outer s H vs Q E hr h => ?_)
  · obtain ⟨a, ns, k, rfl, _⟩ := h
    rfl
  · obtain ⟨a, ns, k, rfl, hS, q⟩ := h
    refine ⟨_, (pss_cons (ps_if (pt_cmpR op_lt (pv 1) (pe_callB (kLen (K := K)) (by rfl) T.n_len PySem.boot_len (pa_cons (pv 0) pa_nil)) (nomark _)) (pss_one (ps_ret (pe_ix (kIxL (K := K)) (pv 0) (pv 1) (fun _ _ => rfl)))) pss_nil)
      (pss_one (ps_ret pe_int))), ?_⟩
    refine ⟨_, rfl, _, rfl, a, _, rfl, .inl hS, _, _, rfl, rfl, _, rfl, ?_⟩
    refine ite2 (fun c => ?_) (fun _ => ?_)
    · have hk : k < ns.length := by
        have := of_decide_eq_true c
        rw [List.length_map] at this
        omega
      refine ⟨_, rfl, _, rfl, a, _, _, V.int ns[k], rfl, rfl, hS, atI_nat ?_, q _⟩
      rw [List.getElem?_map, List.getElem?_eq_getElem hk] <;> rfl
    · exact q 0
end My
namespace My
open PySem L2
def spStore : Sp := fun vs H Q _ => ∃ z : Int, vs = [.int z] ∧ ∀ p H', H p = none → Same H H' → StAt H' p 1000000 → Q (.ref p) H'
theorem ok_law_store {P : Program} {w : World} {K : PySem.W.Frag} {mg : Str → Option Value} {base : Heap} {CS CP XCarryError XNoSchema XNoStep XNoText XNoKept XMissing XNoColumn XNoFlag XNoKey XNoRow XNoStops XNoStrokes XNoTable XNotClosed XNothingBegun XNotSafe XNotSame XRefused XTaken XT_MISSING_WORDS XT_COLUMN_STEPS : Addr} (T : Txt K mg CS CP XCarryError XNoSchema XNoStep XNoText XNoKept XMissing XNoColumn XNoFlag XNoKey XNoRow XNoStops XNoStrokes XNoTable XNotClosed XNothingBegun XNotSafe XNotSame XRefused XTaken XT_MISSING_WORDS XT_COLUMN_STEPS) : CallOk P w K mg base 1 "_law_store" spStore := by
  refine T.d_law_store.ok sc_law_store (fun vs H Q E h => ?_) (fun f cdv A outer s H vs Q E hr h => ?_)
  · obtain ⟨z, rfl, _⟩ := h
    rfl
  · obtain ⟨z, rfl, q⟩ := h
    refine ⟨_, (pss_one (ps_ret (pe_lst (pa_cons (pe_callB (call_max2 rfl) (by rfl) T.n_max (by decide +kernel) (pa_cons pe_int (pa_cons (pe_op op_sub (pv 0) (pe_op op_pow pe_int pe_int)) pa_nil))) (pa_cons (pe_op op_mod (pe_callTy call_int1 (by rfl) T.n_int (by decide +kernel) (pa_cons (pv 0) pa_nil)) pe_int) (pa_cons pe_int pa_nil)))))), ?_⟩
    refine ⟨_, rfl, _, _, rfl, rfl, ⟨by decide, by decide, by decide⟩, _, _, rfl, rfl, _, _, rfl, _, rfl, .inl ⟨_, rfl, _, _, rfl, rfl, (by show (0 : Int) < 2147483629; decide), sizeL (by show 3 ≤ 100000; decide), fun p hp => ?_⟩⟩
    exact q p _ hp (Same.upd (Same.refl H) hp) ⟨_, _, _, upd_same, by omega, by omega⟩
end My
namespace My
open PySem L2
def spDraw : Sp := fun vs H Q _ => ∃ (a : Addr) (b : Int) (n : Nat), vs = [.ref a, .int b] ∧ 0 < b ∧ b < 2 ^ 200 ∧ StAt H a (n + 1) ∧ ∀ (d : Int) H', 0 ≤ d → d < b → StAt H' a n → Fr1 a H H' → Q (.int d) H'
theorem ok_law_draw {P : Program} {w : World} {K : PySem.W.Frag} {mg : Str → Option Value} {base : Heap} {CS CP XCarryError XNoSchema XNoStep XNoText XNoKept XMissing XNoColumn XNoFlag XNoKey XNoRow XNoStops XNoStrokes XNoTable XNotClosed XNothingBegun XNotSafe XNotSame XRefused XTaken XT_MISSING_WORDS XT_COLUMN_STEPS : Addr} (T : Txt K mg CS CP XCarryError XNoSchema XNoStep XNoText XNoKept XMissing XNoColumn XNoFlag XNoKey XNoRow XNoStops XNoStrokes XNoTable XNotClosed XNothingBegun XNotSafe XNotSame XRefused XTaken XT_MISSING_WORDS XT_COLUMN_STEPS) : CallOk P w K mg base 1 "_law_draw" spDraw := by
  refine T.d_law_draw.ok sc_law_draw (fun vs H Q E h => ?_) (fun f cdv A outer s H vs Q E hr h => ?_)
  · obtain ⟨a, b, n, rfl, _⟩ := h
    rfl
  · obtain ⟨a, b, n, rfl, hb0, hb1, ⟨x, y, k, hs, k0, k1⟩, q⟩ := h
    have hS : SqL K H a [.int x, .int y, .int k] := SqL.of hs
    have hbn : b.natAbs < 2 ^ 200 := by omega
    have hbd : CDivW x b := wide_div hb0 hbn (by decide) (by decide)
    refine ⟨_, (pss_cons (ps_if (pt_cmpR op_gt (pe_ix (kIxL (K := K)) (pv 0) pe_int (fun _ _ => rfl)) pe_int (nomark _)) (pss_cons (ps_set (i := 3) sc_law_draw.nd rfl (by first | exact Or.inl rfl | exact Or.inr rfl) (pe_op op_mod (pe_callTy call_int1 (by rfl) T.n_int (by decide +kernel) (pa_cons (pe_ix (kIxL (K := K)) (pv 0) pe_int (fun _ _ => rfl)) pa_nil)) (pv 1)))
        (pss_cons (ps_asg (pe_op op_fdivW (pe_ix (kIxL (K := K)) (pv 0) pe_int (fun _ _ => rfl)) (pv 1)) (pg_sub (pv 0) pe_int set_list))
        (pss_one (ps_ret (pv 3))))) pss_nil)
      (pss_cons (ps_asg (pe_op op_add (pe_ix (kIxL (K := K)) (pv 0) pe_int (fun _ _ => rfl)) pe_int) (pg_sub (pv 0) pe_int set_list))
      (pss_cons (ps_set (i := 2) sc_law_draw.nd rfl (by first | exact Or.inl rfl | exact Or.inr rfl) (pe_op op_mod (pe_callTy call_int1 (by rfl) T.n_int (by decide +kernel) (pa_cons (pe_op op_add (pe_ix (kIxL (K := K)) (pv 0) pe_int (fun _ _ => rfl)) (pe_op op_mul (pe_op op_mul pe_int (pe_ix (kIxL (K := K)) (pv 0) pe_int (fun _ _ => rfl))) (pe_ix (kIxL (K := K)) (pv 0) pe_int (fun _ _ => rfl)))) pa_nil)) pe_int))
      (pss_cons (ps_set (i := 2) sc_law_draw.nd rfl (by first | exact Or.inl rfl | exact Or.inr rfl) (pe_op op_mod (pe_callTy call_int1 (by rfl) T.n_int (by decide +kernel) (pa_cons (pe_op op_mul (pv 2) (pv 2)) pa_nil)) pe_int))
      (pss_cons (ps_set (i := 2) sc_law_draw.nd rfl (by first | exact Or.inl rfl | exact Or.inr rfl) (pe_op op_mod (pe_callTy call_int1 (by rfl) T.n_int (by decide +kernel) (pa_cons (pe_op op_add (pe_op op_add (pv 2) (pe_ix (kIxL (K := K)) (pv 0) pe_int (fun _ _ => rfl))) (pe_op op_mul pe_int (pe_ix (kIxL (K := K)) (pv 0) pe_int (fun _ _ => rfl)))) pa_nil)) pe_int))
      (pss_one (ps_ret (pe_op op_mod (pe_op op_fdiv (pe_op op_mod (pe_callTy call_int1 (by rfl) T.n_int (by decide +kernel) (pa_cons (pe_op op_mul (pv 2) (pv 2)) pa_nil)) pe_int) pe_int) (pv 1))))))))), ?_⟩
    refine ⟨_, rfl, a, _, _, _, rfl, rfl, hS, rfl, _, _, rfl, rfl, _, rfl, ?_⟩
    refine ite2 (fun c => ?_) (fun _ => ?_)
    · refine ⟨_, rfl, a, _, _, _, rfl, rfl, hS, rfl, .inl ⟨_, rfl, _, rfl, _, _, rfl, rfl, hb0, ?_⟩⟩
      refine ⟨_, rfl, a, _, _, _, rfl, rfl, hS, rfl, _, rfl, _, _, rfl, rfl, hbd, ?_⟩
      refine ⟨_, rfl, a, _, _, 0, rfl, rfl, hs, rfl, ?_⟩
      refine ⟨_, rfl, q _ _ (Int.emod_nonneg _ (by omega)) (Int.emod_lt_of_pos _ hb0) ⟨_, _, _, upd_same, k0, by omega⟩ ((Fr1.refl a H).at)⟩
    · refine ⟨_, rfl, a, _, _, _, rfl, rfl, hS, rfl, _, _, rfl, rfl, _, rfl, a, _, _, 2, rfl, rfl, hs, rfl, ?_⟩
      have hs2 : upd H a (.lst [.int x, .int y, .int (k + 1)]) a = some (.lst [.int x, .int y, .int (k + 1)]) := upd_same
      have hS2 : SqL K (upd H a (.lst [.int x, .int y, .int (k + 1)])) a [.int x, .int y, .int (k + 1)] := SqL.of hs2
      have kk : 69621 * (k + 1) ≤ 69621 * 1000000 := by omega
      refine ⟨_, rfl, a, _, _, _, rfl, rfl, hS2, rfl, _, rfl, a, _, _, _, rfl, rfl, hS2, rfl, _, _, rfl, rfl, .inl ⟨by omega, by omega⟩, _, rfl, a, _, _, _, rfl, rfl, hS2, rfl, _, _, rfl, rfl, .inl ⟨by omega, by omega⟩, _, _, rfl, rfl, .inl ⟨_, rfl, _, _, rfl, rfl, (by show (0 : Int) < 2147483587; decide), ?_⟩⟩
      generalize hn : (y + 69621 * (k + 1) * (k + 1)) % 2147483587 = u
      have u0 : 0 ≤ u := hn ▸ Int.emod_nonneg _ (by decide)
      have u1 : u < 2147483587 := hn ▸ Int.emod_lt_of_pos _ (by decide)
      refine ⟨_, rfl, _, rfl, _, _, rfl, rfl, .inl ⟨by omega, by omega⟩, .inl ⟨_, rfl, _, _, rfl, rfl, (by show (0 : Int) < 2147483563; decide), ?_⟩⟩
      generalize hn2 : (u * u) % 2147483563 = v
      have v0 : 0 ≤ v := hn2 ▸ Int.emod_nonneg _ (by decide)
      have v1 : v < 2147483563 := hn2 ▸ Int.emod_lt_of_pos _ (by decide)
      refine ⟨_, rfl, _, rfl, a, _, _, _, rfl, rfl, hS2, rfl, _, _, rfl, rfl, _, rfl, a, _, _, _, rfl, rfl, hS2, rfl, _, _, rfl, rfl, .inl ⟨by omega, by omega⟩, _, _, rfl, rfl, .inl ⟨_, rfl, _, _, rfl, rfl, (by show (0 : Int) < 2147483549; decide), ?_⟩⟩
      generalize hn3 : (v + y + 40014 * (k + 1)) % 2147483549 = t
      have t0 : 0 ≤ t := hn3 ▸ Int.emod_nonneg _ (by decide)
      have t1 : t < 2147483549 := hn3 ▸ Int.emod_lt_of_pos _ (by decide)
      refine ⟨_, rfl, _, rfl, _, _, rfl, rfl, .inl ⟨by omega, by omega⟩, .inl ⟨_, rfl, _, _, rfl, rfl, (by show (0 : Int) < 2147483647; decide), _, _, rfl, rfl, ⟨by decide, by decide⟩, _, rfl, _, _, rfl, rfl, hb0, ?_⟩⟩
      exact q _ _ (Int.emod_nonneg _ (by omega)) (Int.emod_lt_of_pos _ hb0) ⟨_, _, _, upd_same, by omega, by omega⟩ ((Fr1.refl a H).at)
end My
namespace My
open PySem L2
structure NmE (w : Str) : Prop where
  hi : (cd w).length ≤ 8
  az : ∀ c ∈ cd w, 97 ≤ c ∧ c ≤ 122
theorem Nm.e {w : Str} (h : Nm w) : NmE w := ⟨h.l8, h.az⟩
theorem NmE.nm {w : Str} (h : NmE w) (n : w ≠ "") : Nm w := Nm.of rfl (by
  rcases Nat.eq_zero_or_pos (cd w).length with z | z
  · exact absurd (cd_ext (v := w) (w := "") (by rw [List.eq_nil_of_length_eq_zero z]; decide +kernel)) n
  · exact z) h.hi h.az
def textWords : List Str := ["load", "raw", "blank", "refuse", "match", "patch", "fill", "sweep", "kept", "lost", "any", "unique", "empty"]
theorem textWords_nm : ∀ w ∈ textWords, NmE w := by
  have go : ∀ w : Str, decide ((cd w).length ≤ 8) = true → ((cd w).all fun c => decide (97 ≤ c) && decide (c ≤ 122)) = true → NmE w := fun w h1 h2 => ⟨of_decide_eq_true h1, fun c hc => by
    have := List.all_eq_true.mp h2 c hc
    simp only [Bool.and_eq_true, decide_eq_true_eq] at this
    exact this⟩
  intro w hw
  simp only [textWords, List.mem_cons, List.not_mem_nil, or_false] at hw
  rcases hw with rfl | rfl | rfl | rfl | rfl | rfl | rfl | rfl | rfl | rfl | rfl | rfl | rfl <;> exact go _ (by decide +kernel) (by decide +kernel)
theorem cut_top (z : Str) (i : Nat) : cd (cutS z none (some (i : Int))) = (cd z).take i := by
  rcases Nat.le_total i z.length with h | h
  · exact cut_to z i h
  · show ((z.cps.toList.drop (HT.sIx z.length 0 none)).take (HT.sIx z.length z.length (some (i : Int)) - HT.sIx z.length 0 none)).toArray.toList = _
    rw [HT.sIx_none, HT.sIx_nat, List.toList_toArray, List.drop_zero, Nat.min_eq_right h, Nat.sub_zero]
    have hl : z.length = (cd z).length := cd_len z
    rw [hl] at h ⊢
    rw [List.take_length, List.take_of_length_le h]
def spLName : Sp := fun vs H Q _ => ∃ (a tp : Addr) (ws : List Str) (n : Nat), vs = [.ref a, .ref tp] ∧ H tp = some (.lst (ws.map V.str)) ∧ (∀ w ∈ ws, Nm w) ∧ ws.length ≤ 20 ∧ StAt H a (n + 10) ∧
  ∀ (w : Str) H', Nm w → w ∉ ws → StAt H' a n → Fr1 a H H' → Q (.str w) H'
theorem ok_law_name {P : Program} {w : World} {K : PySem.W.Frag} {mg : Str → Option Value} {base : Heap} {CS CP XCarryError XNoSchema XNoStep XNoText XNoKept XMissing XNoColumn XNoFlag XNoKey XNoRow XNoStops XNoStrokes XNoTable XNotClosed XNothingBegun XNotSafe XNotSame XRefused XTaken XT_MISSING_WORDS XT_COLUMN_STEPS : Addr} (T : Txt K mg CS CP XCarryError XNoSchema XNoStep XNoText XNoKept XMissing XNoColumn XNoFlag XNoKey XNoRow XNoStops XNoStrokes XNoTable XNotClosed XNothingBegun XNotSafe XNotSame XRefused XTaken XT_MISSING_WORDS XT_COLUMN_STEPS) : CallOk P w K mg base 2 "_law_name" spLName := by
  have c_law_draw := ok_law_draw (P := P) (w := w) (base := base) T
  refine T.d_law_name.ok sc_law_name (fun vs H Q E h => ?_) (fun f cdv A outer s H vs Q E hr h => ?_)
  · obtain ⟨a, tp, ws, n, rfl, _⟩ := h
    rfl
  · obtain ⟨a, tp, ws, n, rfl, htp, hnm, hwl, hS, q⟩ := h
    have nta : tp ≠ a := fun z => by
      obtain ⟨x, y, k, hs, _⟩ := hS
      rw [z, hs] at htp
      have h1 := HO.lst.inj (Option.some.inj htp)
      match ws, h1 with
      | [], h1 => cases h1
      | w :: _, h1 => cases h1
    refine ⟨_, (pss_cons (ps_set (i := 2) sc_law_name.nd rfl (by first | exact Or.inl rfl | exact Or.inr rfl) pe_str)
      (pss_cons (ps_set (i := 3) sc_law_name.nd rfl (by first | exact Or.inl rfl | exact Or.inr rfl) (pe_callC c_law_draw (hr.mono (by decide)) (pa_cons (pv 0) (pa_cons pe_int pa_nil))))
      (pss_cons (ps_set (i := 4) sc_law_name.nd rfl (by first | exact Or.inl rfl | exact Or.inr rfl) pe_str)
      (Evl.pss_cut (ps_if (PW.pt (pw_or (pt_cmpR op_lt (pv 3) pe_int (nomark _)) (pw_or1 (pt_cmpR (kEqD (K := K) hr.units) (pv 1) (pe_lst pa_nil) (nomark _))))) (pss_one (ps_set (i := 4) sc_law_name.nd rfl (by first | exact Or.inl rfl | exact Or.inr rfl) (pe_join pe_str (pe_lc (own := [("k", 9)]) rfl sc_law_name.nd (pi_range1 (by rfl) T.n_range (pa_cons (pe_op op_add pe_int (pe_callC c_law_draw (hr.mono (by decide)) (pa_cons (pv 0) (pa_cons pe_int pa_nil)))) pa_nil)) (blkOk_by (N := ["store", "taken", "letters", "style", "name", "at", "letter", "middle", "words", "k"]) (sc := defScope s_law_name) (own := [("k", 9)]) (by decide +kernel)) (fun _ _ _ _ _ => (pg_name (i := 9) sc_law_name.nd rfl (by first | exact Or.inl rfl | exact Or.inr rfl))) (fun _ _ _ _ _ => pts_nil) (fun _ _ _ _ _ => (pe_ix ix_str (pv 2) (pe_callC c_law_draw (hr.mono (by decide)) (pa_cons (pv 0) (pa_cons pe_int pa_nil))) (fun _ _ => rfl))))))) (pss_one (ps_if (pt_cmpR op_lt (pv 3) pe_int (nomark _)) (pss_cons (ps_set (i := 5) sc_law_name.nd rfl (by first | exact Or.inl rfl | exact Or.inr rfl) (pe_callC c_law_draw (hr.mono (by decide)) (pa_cons (pv 0) (pa_cons (pe_callB call_len_str (by rfl) T.n_len PySem.boot_len (pa_cons (pe_ix (kIxL (K := K)) (pv 1) (pe_un un_neg pe_int) (fun _ _ => rfl)) pa_nil)) pa_nil))))
        (pss_cons (ps_set (i := 6) sc_law_name.nd rfl (by first | exact Or.inl rfl | exact Or.inr rfl) (pe_ix ix_str (pv 2) (pe_callC c_law_draw (hr.mono (by decide)) (pa_cons (pv 0) (pa_cons pe_int pa_nil))) (fun _ _ => rfl)))
        (pss_cons (ps_set (i := 7) sc_law_name.nd rfl (by first | exact Or.inl rfl | exact Or.inr rfl) (pe_ix (kIxL (K := K)) (pe_lst (pa_cons (pv 6) (pa_cons (pe_op op_add_str (pv 6) (pe_ix ix_str (pe_ix (kIxL (K := K)) (pv 1) (pe_un un_neg pe_int) (fun _ _ => rfl)) (pv 5) (fun _ _ => rfl))) (pa_cons pe_str pa_nil)))) (pe_op op_sub (pv 3) pe_int) (fun _ _ => rfl)))
        (pss_one (ps_set (i := 4) sc_law_name.nd rfl (by first | exact Or.inl rfl | exact Or.inr rfl) (pe_slice sl_str (pe_op op_add_str (pe_op op_add_str (pe_slice sl_str (pe_ix (kIxL (K := K)) (pv 1) (pe_un un_neg pe_int) (fun _ _ => rfl)) po_none (po_some (pv 5))) (pv 7)) (pe_slice sl_str (pe_ix (kIxL (K := K)) (pv 1) (pe_un un_neg pe_int) (fun _ _ => rfl)) (po_some (pe_op op_add (pv 5) pe_int)) po_none)) po_none (po_some pe_int))))))) (pss_cons (ps_set (i := 8) sc_law_name.nd rfl (by first | exact Or.inl rfl | exact Or.inr rfl) (pe_lst (pa_cons pe_str (pa_cons pe_str (pa_cons pe_str (pa_cons pe_str (pa_cons pe_str (pa_cons pe_str (pa_cons pe_str (pa_cons pe_str (pa_cons pe_str (pa_cons pe_str (pa_cons pe_str (pa_cons pe_str pa_nil))))))))))))))
        (pss_one (ps_set (i := 4) sc_law_name.nd rfl (by first | exact Or.inl rfl | exact Or.inr rfl) (pe_ix (kIxL (K := K)) (pe_op op_cat (pv 8) (pe_lst (pa_cons pe_str pa_nil))) (pe_callC c_law_draw (hr.mono (by decide)) (pa_cons (pv 0) (pa_cons pe_int pa_nil))) (fun _ _ => rfl))))))))
      (Evl.pss_cut (ps_if (PW.pt (pw_or (pt_cmpR op_eq (pv 4) pe_str (nomark _)) (pw_or1 (pt_cmpR (kIn (K := K)) (pv 4) (pv 1) rfl)))) (pss_one (ps_set (i := 4) sc_law_name.nd rfl (by first | exact Or.inl rfl | exact Or.inr rfl) (pe_ix (kIxL (K := K)) (pe_lc (own := [("letter", 6)]) rfl sc_law_name.nd (kPiL (K := K) (pe_callTy (call_listS rfl) (by rfl) T.n_list (by decide +kernel) (pa_cons (pv 2) pa_nil))) (blkOk_by (N := ["store", "taken", "letters", "style", "name", "at", "letter", "middle", "words", "k"]) (sc := defScope s_law_name) (own := [("letter", 6)]) (by decide +kernel)) (fun _ _ _ _ _ => (pg_name (i := 6) sc_law_name.nd rfl (by first | exact Or.inl rfl | exact Or.inr rfl))) (fun _ _ _ _ _ => (pts_one (pt_cmpR (kNotIn (K := K)) (pv 6) (pv 1) rfl))) (fun _ _ _ _ _ => (pv 6))) pe_int (fun _ _ => rfl)))) pss_nil)
      (pss_one (ps_ret (pv 4)))))))), ?_⟩
    refine ⟨_, rfl, a, 6, n + 9, rfl, by decide, by decide, hS, fun style G s0 s1 hSG eG => ?_⟩
    have hG := eG _ _ nta htp
    refine ⟨fun σ' H' => ∃ (v : Str) (o5 o6 o7 o8 o9 : Option V), σ' = [some (.ref a), some (.ref tp), some (.str abc), some (.int style), some (.str v), o5, o6, o7, o8, o9] ∧ NmE v ∧ H' tp = some (.lst (ws.map V.str)) ∧ StAt H' a n ∧ Fr1 a H H', ?_, ?_⟩
    · refine ⟨_, rfl, _, _, rfl, rfl, _, rfl, ite2 (fun c0 => iteT ?gA) (fun c0 => ⟨_, rfl, Nat.zero_le _, fun l hl2 => ?gB⟩)⟩
      case' gA => obtain ⟨Gx, hGx, hx, hSx, ex⟩ : ∃ Gx, G = Gx ∧ Gx tp = some (.lst (ws.map V.str)) ∧ StAt Gx a (n + 9) ∧ Fr1 a H Gx := ⟨_, rfl, hG, hSG, eG⟩
      case' gA => subst hGx
      case' gB =>
        have nl : tp ≠ l := ne_of_none hG hl2
        have hx : upd G l (.lst []) tp = some (.lst (ws.map V.str)) := by rw [upd_ne nl]; exact hG
        have hSx : StAt (upd G l (.lst [])) a (n + 9) := hSG.upd (hSG.ne hl2)
        have ex : Fr1 a H (upd G l (.lst [])) := eG.upd (eG.free (hSG.ne hl2).symm hl2)
        refine ⟨.list (ws.map PyData.str), .list [], Dp.lst (SqL.of hx) (TdAll.dp (TdAll.strs ws)), Dp.lst (SqL.of upd_same) .nil, (Fine.lst (fine_strs hnm)).sh (by decide), (Fine.lst (n := 1) (by simp)).sh (by decide), ws.isEmpty, ?_, ?_⟩
      case' gB =>
        · rw [eqv_lists_nil]
          simp
      case' gB => generalize upd G l (.lst []) = Gx at *
      case' gB => refine ite2 (fun hb => ?gC) (fun hb => ?gD)
      case gD =>
        have hw : ws ≠ [] := by simpa using hb
        have s2 : 2 ≤ style := by
          have := c0
          simp only [decide_eq_true_eq] at this
          omega
        obtain ⟨ini, near, rfl⟩ : ∃ ini near, ws = ini ++ [near] := ⟨ws.dropLast, ws.getLast hw, (List.dropLast_concat_getLast hw).symm⟩
        have nn : Nm near := hnm near (by simp)
        have hlast : atI ((ini ++ [near]).map V.str) (-1) = some (.str near) := by rw [List.map_append]; exact atI_last _ _
        have hz : near.length ≤ sizeLine := sizeL (by have := nn.hi; omega)
        refine ⟨_, rfl, _, _, rfl, rfl, _, rfl, ite2 (fun c5 => ?_) (fun c5 => ?_)⟩
        · -- at = _law_draw(store, len(taken[-1]))
          refine ⟨_, rfl, _, rfl, _, rfl, tp, _, _, .str near, rfl, rfl, SqL.of hx, hlast, near, rfl, hz, a, _, n + 8, rfl, (by have := nn.lo; omega), (by have := nn.hi; omega), hSx.mono (by omega), fun at_ H4 a0 a1 hS4 e4 => ?_⟩
          obtain ⟨k, rfl⟩ : ∃ k : Nat, at_ = (k : Int) := ⟨at_.toNat, by omega⟩
          have hk : k < (cd near).length := by
            rw [← cd_len]
            omega
          have ex4 := ex.trans e4
          have hx4 := e4 _ _ nta hx
          refine ⟨_, rfl, _, rfl, a, 26, n + 7, rfl, by decide, by decide, hS4.mono (by omega), fun z H5 z0 z1 hS5 e5 => ?_⟩
          obtain ⟨j, rfl⟩ : ∃ j : Nat, z = (j : Int) := ⟨z.toNat, by omega⟩
          have hj : j < 26 := by omega
          have ex5 := ex4.trans e5
          have hx5 := e5 _ _ nta hx4
          refine ⟨abc, _, 97 + j, rfl, rfl, sizeL (by rw [abc_len]; decide), atI_nat (abc_at j hj), ?_⟩
          have s5 : style < 5 := of_decide_eq_true c5
          refine ⟨_, rfl, _, rfl, _, rfl, _, rfl, tp, _, _, .str near, rfl, rfl, SqL.of hx5, hlast, _, rfl, near, _, (cd near)[k], rfl, rfl, hz, atI_nat (List.getElem?_eq_getElem hk), _, _, rfl, rfl, sizeL (by show 1 + 1 ≤ 100000; decide), sizeL (by show 3 ≤ 100000; decide), fun M hM => ?_⟩
          have hx6 : upd H5 M (.lst [.str ⟨#[97 + j]⟩, .str (⟨#[97 + j]⟩ ++ ⟨#[(cd near)[k]]⟩), .str ""]) tp = some (.lst ((ini ++ [near]).map V.str)) := by rw [upd_ne (ne_of_none hx5 hM)]; exact hx5
          have hS6 : StAt (upd H5 M (.lst [.str ⟨#[97 + j]⟩, .str (⟨#[97 + j]⟩ ++ ⟨#[(cd near)[k]]⟩), .str ""])) a (n + 7) := hS5.upd (hS5.ne hM)
          have ex6 : Fr1 a H (upd H5 M (.lst [.str ⟨#[97 + j]⟩, .str (⟨#[97 + j]⟩ ++ ⟨#[(cd near)[k]]⟩), .str ""])) := ex5.upd (ex5.free (hS5.ne hM).symm hM)
          obtain ⟨mid, hmid, hml, haz⟩ : ∃ mid : Str, atI [V.str ⟨#[97 + j]⟩, .str (⟨#[97 + j]⟩ ++ ⟨#[(cd near)[k]]⟩), .str ""] (style - 2) = some (.str mid) ∧ (cd mid).length ≤ 2 ∧ ∀ c ∈ cd mid, 97 ≤ c ∧ c ≤ 122 := by
            have h3 : style = 2 ∨ style = 3 ∨ style = 4 := by omega
            rcases h3 with rfl | rfl | rfl
            · exact ⟨_, atI_nat (j := 0) rfl, by show 1 ≤ 2; decide, fun c hc => by rw [List.mem_singleton.mp hc]; omega⟩
            · refine ⟨_, atI_nat (j := 1) rfl, by rw [cd_app]; show 2 ≤ 2; decide, fun c hc => ?_⟩
              rw [cd_app] at hc
              rcases List.mem_append.mp hc with h | h
              · rw [List.mem_singleton.mp h]; omega
              · rw [List.mem_singleton.mp h]; exact nn.az _ (List.getElem_mem hk)
            · exact ⟨_, atI_nat (j := 2) rfl, by decide +kernel, fun c hc => absurd hc (by rw [show cd ("" : Str) = [] from by decide +kernel]; simp)⟩
          refine ⟨_, rfl, _, _, rfl, rfl, M, _, _, .str mid, rfl, rfl, SqL.of upd_same, hmid, ?_⟩
          have l1 : cd (cutS near none (some (k : Int))) = (cd near).take k := cut_top near k
          have l2 : cd (cutS near (some ((k : Int) + 1)) none) = (cd near).drop (k + 1) := cut_from near (k + 1)
          have z1' : (cutS near none (some (k : Int))).length ≤ 8 := by
            rw [cd_len, l1, List.length_take]
            have := nn.l8
            omega
          have z2' : (cutS near (some ((k : Int) + 1)) none).length ≤ 8 := by
            rw [cd_len, l2, List.length_drop]
            have := nn.l8
            omega
          have zm : mid.length ≤ 2 := by rw [cd_len]; exact hml
          have zz1 : (cutS near none (some (k : Int)) ++ mid).length ≤ 10 := by
            rw [cd_len, cd_app, List.length_append, ← cd_len, ← cd_len]
            omega
          have zz2 : (cutS near none (some (k : Int)) ++ mid ++ cutS near (some ((k : Int) + 1)) none).length ≤ 18 := by
            rw [cd_len, cd_app, List.length_append, ← cd_len, ← cd_len]
            omega
          refine ⟨_, rfl, _, rfl, tp, _, _, .str near, rfl, rfl, SqL.of hx6, hlast, _, rfl, _, rfl, _, rfl, hz, _, rfl, _, _, rfl, rfl, sizeL (by omega), _, rfl, _, rfl, tp, _, _, .str near, rfl, rfl, SqL.of hx6, hlast, _, rfl, _, _, rfl, rfl, _, rfl, _, rfl, hz, _, _, rfl, rfl, sizeL (by omega), _, rfl, _, rfl, sizeL (by omega), ?_⟩
          refine ⟨_, _, _, _, _, _, rfl, ⟨?_, ?_⟩, hx6, hS6.mono (by omega), ex6⟩
          · rw [show (8 : Int) = ((8 : Nat) : Int) from rfl, cut_top, List.length_take]
            omega
          · intro c hc
            rw [show (8 : Int) = ((8 : Nat) : Int) from rfl, cut_top, cd_app, cd_app, l1, l2] at hc
            have hc := List.mem_of_mem_take hc
            rcases List.mem_append.mp hc with h | h
            · rcases List.mem_append.mp h with h | h
              · exact nn.az _ (List.mem_of_mem_take h)
              · exact haz _ h
            · exact nn.az _ (List.mem_of_mem_drop h)
        · -- words
          refine ⟨sizeL (by show 12 ≤ 100000; decide), fun M hM => ?_⟩
          have hM1 : upd Gx M (.lst ((textWords.take 12).map V.str)) M = some (.lst ((textWords.take 12).map V.str)) := upd_same
          have hx6 : upd Gx M (.lst ((textWords.take 12).map V.str)) tp = some (.lst ((ini ++ [near]).map V.str)) := by rw [upd_ne (ne_of_none hx hM)]; exact hx
          have hS6 := hSx.upd (o := .lst ((textWords.take 12).map V.str)) (hSx.ne hM)
          have ex6 : Fr1 a H (upd Gx M (.lst ((textWords.take 12).map V.str))) := ex.upd (ex.free (hSx.ne hM).symm hM)
          refine ⟨_, rfl, sizeL (by show 1 ≤ 100000; decide), fun M2 hM2 => ?_⟩
          have hM2 : upd Gx M (.lst ((textWords.take 12).map V.str)) M2 = none := hM2
          have hx7 : upd (upd Gx M (.lst ((textWords.take 12).map V.str))) M2 (.lst [.str "empty"]) tp = some (.lst ((ini ++ [near]).map V.str)) := by rw [upd_ne (ne_of_none hx6 hM2)]; exact hx6
          have hS7 := hS6.upd (o := .lst [.str "empty"]) (hS6.ne hM2)
          have ex7 : Fr1 a H (upd (upd Gx M (.lst ((textWords.take 12).map V.str))) M2 (.lst [.str "empty"])) := ex6.upd (ex6.free (hS6.ne hM2).symm hM2)
          have hM17 : upd (upd Gx M (.lst ((textWords.take 12).map V.str))) M2 (.lst [.str "empty"]) M = some (.lst ((textWords.take 12).map V.str)) := by rw [upd_ne (ne_of_none hM1 hM2)]; exact hM1
          refine ⟨M, M2, _, _, rfl, rfl, hM17, upd_same, sizeL (by show 13 ≤ 100000; decide), fun M3 hM3 => ?_⟩
          have hM3 : upd (upd Gx M (.lst ((textWords.take 12).map V.str))) M2 (.lst [.str "empty"]) M3 = none := hM3
          have hx8 : upd (upd (upd Gx M (.lst ((textWords.take 12).map V.str))) M2 (.lst [.str "empty"])) M3 (.lst (textWords.map V.str)) tp = some (.lst ((ini ++ [near]).map V.str)) := by rw [upd_ne (ne_of_none hx7 hM3)]; exact hx7
          have hS8 := hS7.upd (o := .lst (textWords.map V.str)) (hS7.ne hM3)
          have ex8 : Fr1 a H (upd (upd (upd Gx M (.lst ((textWords.take 12).map V.str))) M2 (.lst [.str "empty"])) M3 (.lst (textWords.map V.str))) := ex7.upd (ex7.free (hS7.ne hM3).symm hM3)
          have hM38 : upd (upd (upd Gx M (.lst ((textWords.take 12).map V.str))) M2 (.lst [.str "empty"])) M3 (.lst (textWords.map V.str)) M3 = some (.lst (textWords.map V.str)) := upd_same
          refine ⟨_, rfl, a, 13, n, rfl, by decide, by decide, hS8.mono (by omega), fun z H5 z0 z1 hS5 e5 => ?_⟩
          obtain ⟨j, rfl⟩ : ∃ j : Nat, z = (j : Int) := ⟨z.toNat, by omega⟩
          have hj : j < textWords.length := by show j < 13; omega
          have nM3 : M3 ≠ a := (hS7.ne hM3).symm
          refine ⟨M3, _, _, .str textWords[j], rfl, rfl, SqL.of (e5 _ _ nM3 hM38), atI_nat (by rw [List.getElem?_map, List.getElem?_eq_getElem hj]; rfl), ?_⟩
          exact ⟨_, _, _, _, _, _, rfl, textWords_nm _ (List.getElem_mem hj), e5 _ _ nta hx8, hS5, ex8.trans e5⟩
      all_goals
        refine ⟨⟨_, rfl⟩, _, rfl, a, 8, n + 8, rfl, by decide, by decide, hSx, fun d H1 d0 d1 hS1 e1 => ⟨_, _, rfl, rfl, _, rfl, by omega, by omega, fun D hD => ?_⟩⟩
        have hx1 := e1 _ _ nta hx
        have ex1 := ex.trans e1
        have hDa : D ≠ a := (hS1.ne hD).symm
        have hDt : tp ≠ D := ne_of_none hx1 hD
        refine lc_range (lo := 0) (n := (1 + d).toNat) (fun i Hi => ∃ cs : List Nat, cs.length = i ∧ (∀ c ∈ cs, 97 ≤ c ∧ c ≤ 122) ∧ Hi D = some (.lst (cs.map fun c => V.str ⟨#[c]⟩)) ∧ StAt Hi a (n + (8 - i)) ∧ Hi tp = some (.lst (ws.map V.str)) ∧ Fr1 a H Hi) ?_ ?_ ?_
        · exact ⟨[], rfl, by simp, upd_same, hS1.upd (hDa.symm), by rw [upd_ne hDt]; exact hx1, ex1.upd (ex1.free hDa hD)⟩
        · rintro i Hi hi ⟨cs, hc, az, hl, hs, ht, e2⟩
          refine ⟨rfl, tYes_if ?_⟩
          refine ⟨_, rfl, _, rfl, a, 26, n + (8 - (i + 1)), rfl, by decide, by decide, hs.mono (by omega), fun z H2 z0 z1 hs2 e3 => ?_⟩
          obtain ⟨j, rfl⟩ : ∃ j : Nat, z = (j : Int) := ⟨z.toNat, by omega⟩
          have hj : j < 26 := by omega
          refine ⟨abc, _, 97 + j, rfl, rfl, sizeL (by rw [abc_len]; decide), atI_nat (abc_at j hj), _, e3 D _ hDa hl, sizeLt (by rw [List.length_map]; omega), cs ++ [97 + j], by simp [hc], ?_, ?_, hs2.upd hDa.symm, by rw [upd_ne hDt]; exact e3 _ _ nta ht, ?_⟩
          · intro c hm
            rcases List.mem_append.mp hm with m | m
            · exact az c m
            · rw [List.mem_singleton.mp m]
              omega
          · rw [upd_same, List.map_append]
            rfl
          · have hD0 : H D = none := ex1.free hDa hD
            exact fun c o nc hc => by
              rw [upd_ne (ne_of_none hc hD0)]
              exact e3 c o nc (e2 c o nc hc)
        · rintro Hi ⟨cs, hc, az, hl, hs, ht, e2⟩
          refine ⟨_, D, cs.map fun c => ⟨#[c]⟩, rfl, rfl, .inl (SqL.of ?_), ?_, ?_⟩
          · rw [hl, List.map_map]
            rfl
          · have e0 : ((cs.map fun c => (⟨#[c]⟩ : Str)).map (·.length)).sum = cs.length := by
              clear hc az hl
              induction cs with
              | nil => rfl
              | cons c r ih =>
                rw [List.map_cons, List.map_cons, List.sum_cons, ih, List.length_cons]
                show 1 + r.length = r.length + 1
                omega
            rw [e0, List.length_map]
            have : (Str.ofString "").length = 0 := by decide +kernel
            rw [this]
            omega
          · exact ⟨_, _, _, _, _, _, rfl, (Nm.of (cd_join cs) (by omega) (by omega) az).e, ht, hs.mono (by omega), e2⟩
    · rintro σ' H' ⟨v, o5, o6, o7, o8, o9, rfl, hv, hx, hSx, ex⟩
      refine ⟨fun σ' H' => ∃ (v : Str) (o5 o6 o7 o8 o9 : Option V), σ' = [some (.ref a), some (.ref tp), some (.str abc), some (.int style), some (.str v), o5, o6, o7, o8, o9] ∧ Nm v ∧ v ∉ ws ∧ StAt H' a n ∧ Fr1 a H H', ?_, ?_⟩
      · refine ⟨_, rfl, rfl, _, rfl, ite2 (fun c0 => iteT ?ga) (fun c0 => ⟨_, rfl, _, rfl, tp, _, rfl, .inl (SqL.of hx), rfl, flat_strs ws, decide (v ∈ ws), ?gm, ite2 (fun hin => ?gb) (fun hin => ?gc)⟩)⟩
        case gm =>
          show V.bl (inV _ _) = _
          rw [inV_strs]
        case gc =>
          have c0' : v ≠ "" := fun e => c0 (by rw [e]; exact decide_eq_true rfl)
          exact ⟨v, _, _, _, _, _, rfl, hv.nm c0', by simpa using hin, hSx, ex⟩
        all_goals
          refine ⟨_, rfl, abc, rfl, (by rw [abc_len]; decide), fun L hL => ?_⟩
          have hxL : upd H' L (.lst (abc.cps.toList.map fun c => V.str ⟨#[c]⟩)) tp = some (.lst (ws.map V.str)) := by rw [upd_ne (ne_of_none hx hL)]; exact hx
          have hSL : StAt (upd H' L (.lst (abc.cps.toList.map fun c => V.str ⟨#[c]⟩))) a n := hSx.upd (hSx.ne hL)
          have exL : Fr1 a H (upd H' L (.lst (abc.cps.toList.map fun c => V.str ⟨#[c]⟩))) := ex.upd (ex.free (hSx.ne hL).symm hL)
          have hLL : upd H' L (.lst (abc.cps.toList.map fun c => V.str ⟨#[c]⟩)) L = some (.lst (abc.cps.toList.map fun c => V.str ⟨#[c]⟩)) := upd_same
          generalize upd H' L (.lst (abc.cps.toList.map fun c => V.str ⟨#[c]⟩)) = G1 at *
          have lenA : (abc.cps.toList.map fun c => V.str ⟨#[c]⟩).length = 26 := by rw [List.length_map, abc_list]; rfl
          refine ⟨L, rfl, ⟨_, SqL.of hLL⟩, fun D hD => lc_list (K := K) (a := L) (xs := abc.cps.toList.map fun c => V.str ⟨#[c]⟩) (fun t Ht => ∃ acc : List V, Ht D = some (.lst acc) ∧ acc.length ≤ t ∧ (acc = [] → ∀ u, u < t → (⟨#[97 + u]⟩ : Str) ∈ ws) ∧ (∀ y ∈ acc, ∃ c, (97 ≤ c ∧ c ≤ 122) ∧ (⟨#[c]⟩ : Str) ∉ ws ∧ y = .str ⟨#[c]⟩) ∧ Ht L = some (.lst (abc.cps.toList.map fun c => V.str ⟨#[c]⟩)) ∧ Ht tp = some (.lst (ws.map V.str)) ∧ StAt Ht a n ∧ Fr1 a H Ht) ?_ ?_ ?_ ?_⟩
          · exact ⟨[], upd_same, Nat.zero_le _, fun _ u h => absurd h (Nat.not_lt_zero _), by simp, by rw [upd_ne (ne_of_none hLL hD)]; exact hLL, by rw [upd_ne (ne_of_none hxL hD)]; exact hxL, hSL.upd (hSL.ne hD), exL.upd (exL.free (hSL.ne hD).symm hD)⟩
          · rintro t Ht _ ⟨_, _, _, _, _, h, _⟩
            exact SqL.of h
          · rintro t x Ht hts ⟨acc, hacc, hal, hno, hyes, hLt, hxt, hSt, ext⟩
            have ht26 : t < 26 := by
              have h1 := (List.getElem?_eq_some_iff.mp hts).1
              rwa [lenA] at h1
            obtain rfl : x = .str ⟨#[97 + t]⟩ := by
              rw [List.getElem?_map, abc_at t ht26] at hts
              exact (Option.some.inj hts).symm
            have nDp : D ≠ tp := fun e => by
              rw [e, hxL] at hD
              cases hD
            have nDL : D ≠ L := fun e => by
              rw [e, hLL] at hD
              cases hD
            have nDa : D ≠ a := (hSL.ne hD).symm
            have hD0 : H D = none := exL.free nDa hD
            refine ⟨rfl, _, rfl, _, rfl, tp, _, rfl, .inl (SqL.of hxt), rfl, flat_strs ws, !decide ((⟨#[97 + t]⟩ : Str) ∈ ws), ?_, ?_⟩
            · show V.bl (!inV _ _) = _
              rw [inV_strs]
            by_cases hm : (⟨#[97 + t]⟩ : Str) ∈ ws
            · rw [decide_eq_true hm]
              refine iteF ⟨acc, hacc, by omega, fun e u hu => ?_, hyes, hLt, hxt, hSt, ext⟩
              rcases Nat.lt_succ_iff_lt_or_eq.mp hu with h | rfl
              · exact hno e u h
              · exact hm
            · rw [decide_eq_false hm]
              refine iteT ⟨_, rfl, acc, hacc, sizeLt (by omega), acc ++ [.str ⟨#[97 + t]⟩], upd_same, by simp; omega, fun e => by simp at e, fun y hy => ?_, by rw [upd_ne nDL.symm]; exact hLt, by rw [upd_ne nDp.symm]; exact hxt, hSt.upd nDa.symm, ?_⟩
              · rcases List.mem_append.mp hy with h | h
                · exact hyes y h
                · exact ⟨97 + t, by omega, hm, List.mem_singleton.mp h⟩
              · intro b o nb hb
                rw [upd_ne (ne_of_none hb hD0)]
                exact ext b o nb hb
          · rintro Ht ⟨acc, hacc, hal, hno, hyes, hLt, hxt, hSt, ext⟩
            cases acc with
            | nil =>
              exfalso
              obtain ⟨j, hj, hf⟩ := free_letter ws (by omega)
              exact hf (hno rfl j (by rw [lenA]; exact hj))
            | cons y r =>
              obtain ⟨s, az, hf, rfl⟩ := hyes y List.mem_cons_self
              refine ⟨D, _, _, _, rfl, rfl, SqL.of hacc, atI_nat (j := 0) rfl, ?_⟩
              exact ⟨_, _, _, _, _, _, rfl, Nm.sign az, hf, hSt, ext⟩
      · rintro σ' H' ⟨v, o5, o6, o7, o8, o9, rfl, hv, hn, hSx, ex⟩
        exact ⟨_, rfl, q v H' hv hn hSx ex⟩
end My
namespace My
open PySem L2
def spTables : Sp := fun vs H Q _ => ∃ (a : Addr) (n : Nat), vs = [.ref a] ∧ StAt H a (n + 300) ∧ ∀ (v : V) (pl : Plan) (H' : Hp), Td H' v (planD pl) → Good pl → StAt H' a n → Fr1 a H H' → Q v H'
theorem ok_law_tables {P : Program} {w : World} {K : PySem.W.Frag} {mg : Str → Option Value} {base : Heap} {CS CP XCarryError XNoSchema XNoStep XNoText XNoKept XMissing XNoColumn XNoFlag XNoKey XNoRow XNoStops XNoStrokes XNoTable XNotClosed XNothingBegun XNotSafe XNotSame XRefused XTaken XT_MISSING_WORDS XT_COLUMN_STEPS : Addr} (T : Txt K mg CS CP XCarryError XNoSchema XNoStep XNoText XNoKept XMissing XNoColumn XNoFlag XNoKey XNoRow XNoStops XNoStrokes XNoTable XNotClosed XNothingBegun XNotSafe XNotSame XRefused XTaken XT_MISSING_WORDS XT_COLUMN_STEPS) : CallOk P w K mg base 3 "_law_tables" spTables := by
  have c_law_draw := ok_law_draw (P := P) (w := w) (base := base) T
  have c_law_name := ok_law_name (P := P) (w := w) (base := base) T
  refine T.d_law_tables.ok sc_law_tables (fun vs H Q E h => ?_) (fun f cdv A outer s H vs Q E hr h => ?_)
  · obtain ⟨a, n, rfl, _⟩ := h
    rfl
  · obtain ⟨a, n, rfl, hS, q⟩ := h
    refine ⟨_, (pss_cons (ps_set (i := 1) sc_law_tables.nd rfl (by first | exact Or.inl rfl | exact Or.inr rfl) (pe_lst pa_nil))
      (pss_cons (ps_for PassesOwn.never rfl (pi_range1 (by rfl) T.n_range (pa_cons (pe_op op_add pe_int (pe_callC c_law_draw (hr.mono (by decide)) (pa_cons (pv 0) (pa_cons pe_int pa_nil)))) pa_nil)) (pg_name (i := 2) sc_law_tables.nd rfl (by first | exact Or.inl rfl | exact Or.inr rfl))
      (pss_one (ps_expr (pe_bm PySem.F.plainAttrs_list PySem.F.slot_list_append PySem.F.type_list_append mt_append (pv 1) (pa_cons (pe_callC c_law_name (hr.mono (by decide)) (pa_cons (pv 0) (pa_cons (pv 1) pa_nil))) pa_nil)))))
      (pss_cons (ps_set (i := 3) sc_law_tables.nd rfl (by first | exact Or.inl rfl | exact Or.inr rfl) (pe_lst pa_nil))
      (pss_cons (ps_for PassesOwn.never rfl (kPiL (K := K) (pv 1)) (pg_name (i := 4) sc_law_tables.nd rfl (by first | exact Or.inl rfl | exact Or.inr rfl))
      (pss_cons (ps_set (i := 5) sc_law_tables.nd rfl (by first | exact Or.inl rfl | exact Or.inr rfl) (pe_lst pa_nil))
          (pss_cons (ps_set (i := 6) sc_law_tables.nd rfl (by first | exact Or.inl rfl | exact Or.inr rfl) (pe_lst pa_nil))
          (pss_cons (ps_for PassesOwn.never rfl (pi_range1 (by rfl) T.n_range (pa_cons (pe_callC c_law_draw (hr.mono (by decide)) (pa_cons (pv 0) (pa_cons pe_int pa_nil))) pa_nil)) (pg_name (i := 2) sc_law_tables.nd rfl (by first | exact Or.inl rfl | exact Or.inr rfl))
      (pss_cons (ps_set (i := 7) sc_law_tables.nd rfl (by first | exact Or.inl rfl | exact Or.inr rfl) (pe_ix (kIxL (K := K)) (pv 1) (pe_callC c_law_draw (hr.mono (by decide)) (pa_cons (pv 0) (pa_cons (pe_callB (kLen (K := K)) (by rfl) T.n_len PySem.boot_len (pa_cons (pv 1) pa_nil)) pa_nil))) (fun _ _ => rfl)))
          (Evl.pss_cut (ps_if (PW.pt (pw_or (pt_cmpR (kIn (K := K)) (pv 7) (pv 5) rfl) (pw_or1 (pt_cmpR op_gt (pe_callC c_law_draw (hr.mono (by decide)) (pa_cons (pv 0) (pa_cons pe_int pa_nil))) pe_int (nomark _))))) (pss_one (ps_set (i := 7) sc_law_tables.nd rfl (by first | exact Or.inl rfl | exact Or.inr rfl) (pe_callC c_law_name (hr.mono (by decide)) (pa_cons (pv 0) (pa_cons (pv 5) pa_nil))))) pss_nil)
          (pss_cons (ps_expr (pe_bm PySem.F.plainAttrs_list PySem.F.slot_list_append PySem.F.type_list_append mt_append (pv 5) (pa_cons (pv 7) pa_nil)))
          (pss_one (ps_expr (pe_bm PySem.F.plainAttrs_list PySem.F.slot_list_append PySem.F.type_list_append mt_append (pv 6) (pa_cons (pe_tup (pa_cons (pv 7) (pa_cons (pe_ix (kIxL (K := K)) (pv 1) (pe_callC c_law_draw (hr.mono (by decide)) (pa_cons (pv 0) (pa_cons (pe_callB (kLen (K := K)) (by rfl) T.n_len PySem.boot_len (pa_cons (pv 1) pa_nil)) pa_nil))) (fun _ _ => rfl)) pa_nil))) pa_nil))))))))
          (pss_one (ps_expr (pe_bm PySem.F.plainAttrs_list PySem.F.slot_list_append PySem.F.type_list_append mt_append (pv 3) (pa_cons (pe_tup (pa_cons (pv 4) (pa_cons (pe_cmpR op_eq (pe_callC c_law_draw (hr.mono (by decide)) (pa_cons (pv 0) (pa_cons pe_int pa_nil))) pe_int (nomark _)) (pa_cons (pe_callTy (kTup (K := K)) (by rfl) T.n_tuple (by decide +kernel) (pa_cons (pv 6) pa_nil)) pa_nil)))) pa_nil))))))))
      (pss_one (ps_ret (pe_callTy (kTup (K := K)) (by rfl) T.n_tuple (by decide +kernel) (pa_cons (pv 3) pa_nil)))))))), ?_⟩
    refine ⟨sizeL (by show 0 ≤ 100000; decide), fun p hp => ?_⟩
    have nap : a ≠ p := hS.ne hp
    have hS0 := hS.upd (o := .lst []) nap
    have e0 : Fr1 a H (upd H p (.lst [])) := (Fr1.refl a H).upd hp
    have hp0 : upd H p (.lst []) p = some (.lst []) := upd_same
    generalize upd H p (.lst []) = G0 at *
    refine ⟨_, rfl, a, 5, n + 299, rfl, by decide, by decide, hS0, fun d G1 d0 d1 hS1 e1 => ⟨_, _, rfl, rfl, _, rfl, by omega, by omega, ?_⟩⟩
    have hp1 := e1 _ _ nap.symm hp0
    refine for_range (lo := 0) (n := (1 + d).toNat) (fun i σ Hi => ∃ (ws : List Str) (o2 : Option V), σ = [some (.ref a), some (.ref p), o2, none, none, none, none, none] ∧ ws.length = i ∧ ws.Nodup ∧ (∀ w ∈ ws, Nm w) ∧ Hi p = some (.lst (ws.map V.str)) ∧ StAt Hi a (n + 240 + 10 * (5 - i)) ∧ Fr1 a H Hi) ?_ ?_ ?_
    · exact ⟨[], _, rfl, rfl, List.nodup_nil, by simp, hp1, hS1.mono (by omega), e0.trans e1⟩
    · rintro i σ Hi hi ⟨ws, o2, rfl, hl, hnd, hnm, hpi, hSi, ei⟩
      refine ⟨_, rfl, .inl ⟨rfl, _, SqL.of hpi⟩, _, rfl, _, rfl, a, p, ws, n + 240 + 10 * (5 - (i + 1)), rfl, hpi, hnm, by omega, hSi.mono (by omega), fun w H2 nw nin hS2 e2 => ⟨p, _, _, rfl, rfl, e2 _ _ nap.symm hpi, sizeLt (by rw [List.length_map]; omega), ?_⟩⟩
      refine ⟨ws ++ [w], _, rfl, by simp [hl], nd_snoc hnd nin, fun x hx => ?_, by rw [upd_same, List.map_append]; rfl, hS2.upd nap, (ei.trans e2).upd hp⟩
      rcases List.mem_append.mp hx with h | h
      · exact hnm x h
      · rw [List.mem_singleton.mp h]; exact nw
    · rintro σ Hn ⟨ws, o2, rfl, hl, hnd, hnm, hpn, hSn, en⟩
      have hw1 : 1 ≤ ws.length := by omega
      have hw5 : ws.length ≤ 5 := by omega
      refine ⟨sizeL (by show 0 ≤ 100000; decide), fun E0 hE => ?_⟩
      have hE0 : H E0 = none := en.free (hSn.ne hE).symm hE
      have nE : a ≠ E0 := hSn.ne hE
      have npE : p ≠ E0 := ne_of_none hpn hE
      refine ⟨_, rfl, p, rfl, ⟨_, SqL.of (by rw [upd_ne npE]; exact hpn)⟩, for_list (K := K) (a := p) (xs := ws.map V.str) (fun i σ Hi => ∃ (evs : List V) (pl : Plan) (o2 o4 o5 o6 o7 : Option V), σ = [some (.ref a), some (.ref p), o2, some (.ref E0), o4, o5, o6, o7] ∧ i ≤ ws.length ∧ evs.length = i ∧
        Hi E0 = some (.lst evs) ∧ TdAll Hi evs (pl.map entD) ∧ pl.map (·.1) = ws.take i ∧ (∀ e ∈ pl, GoodRefs ws e.2.2) ∧ Hi p = some (.lst (ws.map V.str)) ∧ StAt Hi a (n + 45 * (5 - i)) ∧ Fr1 a H Hi) ?_ ?_ ?_ ?_⟩
      · exact ⟨[], [], _, _, _, _, _, rfl, Nat.zero_le _, rfl, upd_same, .nil, rfl, by simp, by rw [upd_ne npE]; exact hpn, (hSn.upd nE).mono (by omega), en.upd hE0⟩
      · rintro i σ Hi _ ⟨_, _, _, _, _, _, _, _, _, _, _, _, _, _, hpi, _⟩
        exact SqL.of hpi
      · rintro i y σ Hi hy ⟨evs, pl, o2, o4, o5, o6, o7, rfl, hi, hel, hEi, hTd, hpl, hgr, hpi, hSi, ei⟩
        have hil : i < ws.length := by
          have := (List.getElem?_eq_some_iff.mp hy).1
          rwa [List.length_map] at this
        obtain rfl : y = V.str ws[i] := by
          rw [List.getElem?_map, List.getElem?_eq_getElem hil] at hy
          exact (Option.some.inj hy).symm
        refine ⟨sizeL (by show 0 ≤ 100000; decide), fun co hco => ?_⟩
        have naco : a ≠ co := hSi.ne hco
        have hS1 := hSi.upd (o := .lst []) naco
        have hco1 : upd Hi co (.lst []) co = some (.lst []) := upd_same
        have f1 : Fr1 a Hi (upd Hi co (.lst [])) := (Fr1.refl a Hi).upd hco
        generalize upd Hi co (.lst []) = J1 at *
        refine ⟨sizeL (by show 0 ≤ 100000; decide), fun re hre => ?_⟩
        have nare : a ≠ re := hS1.ne hre
        have ncr : co ≠ re := ne_of_none hco1 hre
        have hre0 : Hi re = none := f1.free nare.symm hre
        have hS2 := hS1.upd (o := .lst []) nare
        have hre2 : upd J1 re (.lst []) re = some (.lst []) := upd_same
        have hco2 : upd J1 re (.lst []) co = some (.lst []) := by rw [upd_ne ncr]; exact hco1
        have f2 : Fr1 a Hi (upd J1 re (.lst [])) := f1.upd hre0
        generalize upd J1 re (.lst []) = J2 at *
        refine ⟨_, rfl, a, 4, n + 45 * (5 - i) - 1, rfl, by decide, by decide, hS2.mono (by omega), fun m J3 m0 m1 hS3 f3 => ⟨_, rfl, by omega, by omega, ?_⟩⟩
        have npco : p ≠ co := ne_of_none hpi hco
        have npre : p ≠ re := ne_of_none hpi hre0
        have nEco : E0 ≠ co := ne_of_none hEi hco
        have nEre : E0 ≠ re := ne_of_none hEi hre0
        refine for_range (lo := 0) (n := m.toNat) (fun j σ Hj => ∃ (cs : List Str) (ys : List V) (rs : List Ref) (o2 o7 : Option V), σ = [some (.ref a), some (.ref p), o2, some (.ref E0), some (.str ws[i]), some (.ref co), some (.ref re), o7] ∧ cs.length = j ∧ cs.Nodup ∧ (∀ w ∈ cs, Nm w) ∧ Hj co = some (.lst (cs.map V.str)) ∧
          ys.length = j ∧ Hj re = some (.lst ys) ∧ TdAll Hj ys (rs.map refD) ∧ rs.map (·.1) = cs ∧ (∀ r ∈ rs, r.2 ∈ ws) ∧ StAt Hj a (n + 45 * (5 - i) - 1 - 13 * j) ∧ Fr1 a Hi Hj) ?_ ?_ ?_
        · exact ⟨[], [], [], _, _, rfl, rfl, List.nodup_nil, by simp, f3 _ _ naco.symm hco2, rfl, f3 _ _ nare.symm hre2, .nil, rfl, by simp, hS3.mono (by omega), f2.trans f3⟩
        · rintro j σ Hj hj ⟨cs, ys, rs, o2, o7, rfl, hcl, hcn, hcm, hcj, hyl, hrj, hTj, hrs, hto, hSj, ej⟩
          have hpj := ej _ _ nap.symm hpi
          have hwl : (ws.map V.str).length = ws.length := List.length_map _
          refine ⟨_, rfl, _, rfl, _, rfl, p, _, rfl, .inl (SqL.of hpj), a, _, n + 45 * (5 - i) - 2 - 13 * j, rfl, (by rw [hwl]; omega), (by rw [hwl]; omega), hSj.mono (by omega), fun z K1 z0 z1 hK1 g1 => ?_⟩
          rw [hwl] at z1
          obtain ⟨t, rfl⟩ : ∃ t : Nat, z = (t : Int) := ⟨z.toNat, by omega⟩
          have ht : t < ws.length := by omega
          refine ⟨p, _, _, V.str ws[t], rfl, rfl, SqL.of (g1 _ _ nap.symm hpj), atI_nat (by rw [List.getElem?_map, List.getElem?_eq_getElem ht]; rfl), ?_⟩
          have hc1 := g1 _ _ naco.symm hcj
          have hr1 := g1 _ _ nare.symm hrj
          have k1 := hSj.kt g1
          refine ⟨fun σ' H' => ∃ (c : Str) (o2 : Option V), σ' = [some (.ref a), some (.ref p), o2, some (.ref E0), some (.str ws[i]), some (.ref co), some (.ref re), some (.str c)] ∧ Nm c ∧ c ∉ cs ∧ StAt H' a (n + 45 * (5 - i) - 13 - 13 * j) ∧ Fr1 a Hj H', ?_, ?_⟩
          · refine ⟨_, rfl, _, rfl, co, _, rfl, .inl (SqL.of hc1), rfl, flat_strs cs, decide (ws[t] ∈ cs), ?gm, ite2 (fun hin => iteT ?ga) (fun hin => ⟨_, rfl, a, 4, n + 45 * (5 - i) - 3 - 13 * j, rfl, by decide, by decide, hK1.mono (by omega), fun z2 K2 z20 z21 hK2 g2 => ⟨_, _, rfl, rfl, _, rfl, ite2 (fun hz => ?gb) (fun hz => ?gc)⟩⟩)⟩
            case gm =>
              show V.bl (inV _ _) = _
              rw [inV_strs]
            case gc => exact ⟨_, _, rfl, hnm _ (List.getElem_mem ht), by simpa using hin, hK2.mono (by omega), g1.trans g2⟩
            case' ga => obtain ⟨Kx, hKx, hSx, gx, hcx⟩ : ∃ Kx, K1 = Kx ∧ StAt Kx a (n + 45 * (5 - i) - 3 - 13 * j) ∧ Fr1 a Hj Kx ∧ Kx co = some (.lst (cs.map V.str)) := ⟨_, rfl, hK1.mono (by omega), g1, hc1⟩
            case' gb => obtain ⟨Kx, hKx, hSx, gx, hcx⟩ : ∃ Kx, K2 = Kx ∧ StAt Kx a (n + 45 * (5 - i) - 3 - 13 * j) ∧ Fr1 a Hj Kx ∧ Kx co = some (.lst (cs.map V.str)) := ⟨_, rfl, hK2, g1.trans g2, g2 _ _ naco.symm hc1⟩
            all_goals
              subst hKx
              refine ⟨_, rfl, _, rfl, a, co, cs, n + 45 * (5 - i) - 13 - 13 * j, rfl, hcx, hcm, by omega, hSx.mono (by omega), fun w K3 nw nin hK3 g3 => ?_⟩
              exact ⟨_, _, rfl, nw, nin, hK3, gx.trans g3⟩
          · rintro σ' K4 ⟨c, o2, rfl, nc, ncs, hK4, g4⟩
            have hc4 := g4 _ _ naco.symm hcj
            have hr4 := g4 _ _ nare.symm hrj
            have hp4 := g4 _ _ nap.symm hpj
            refine ⟨_, rfl, .inl ⟨rfl, _, SqL.of hc4⟩, _, rfl, co, _, _, rfl, rfl, hc4, sizeLt (by rw [List.length_map]; omega), ?_⟩
            have hr5 : upd K4 co (.lst (cs.map V.str ++ [.str c])) re = some (.lst ys) := by rw [upd_ne ncr.symm]; exact hr4
            have hp5 : upd K4 co (.lst (cs.map V.str ++ [.str c])) p = some (.lst (ws.map V.str)) := by rw [upd_ne npco]; exact hp4
            have hS5 : StAt (upd K4 co (.lst (cs.map V.str ++ [.str c]))) a (n + 45 * (5 - i) - 13 - 13 * j) := hK4.upd naco
            have e5 : Fr1 a Hi (upd K4 co (.lst (cs.map V.str ++ [.str c]))) := (ej.trans g4).upd hco
            have k5 : KT Hj (upd K4 co (.lst (cs.map V.str ++ [.str c]))) := (hSj.kt g4).updL hc4
            have hc5 : upd K4 co (.lst (cs.map V.str ++ [.str c])) co = some (.lst (cs.map V.str ++ [.str c])) := upd_same
            generalize upd K4 co (.lst (cs.map V.str ++ [.str c])) = K5 at *
            refine ⟨_, rfl, .inl ⟨rfl, _, SqL.of hr5⟩, _, rfl, _, rfl, _, rfl, _, rfl, p, _, rfl, .inl (SqL.of hp5), a, _, n + 45 * (5 - i) - 14 - 13 * j, rfl, (by rw [hwl]; omega), (by rw [hwl]; omega), hS5.mono (by omega), fun z K6 z0 z1 hK6 g6 => ?_⟩
            rw [hwl] at z1
            obtain ⟨u, rfl⟩ : ∃ u : Nat, z = (u : Int) := ⟨z.toNat, by omega⟩
            have hu : u < ws.length := by omega
            refine ⟨p, _, _, V.str ws[u], rfl, rfl, SqL.of (g6 _ _ nap.symm hp5), atI_nat (by rw [List.getElem?_map, List.getElem?_eq_getElem hu]; rfl), sizeL (by show 2 ≤ 100000; decide), fun tp htp => ?_⟩
            have hr6 := g6 _ _ nare.symm hr5
            have hc6 := g6 _ _ naco.symm hc5
            have nrt : re ≠ tp := ne_of_none hr6 htp
            have nct : co ≠ tp := ne_of_none hc6 htp
            have hr7 : upd K6 tp (.tup [V.str c, V.str ws[u]]) re = some (.lst ys) := by rw [upd_ne nrt]; exact hr6
            have k7 : KT Hj (upd K6 tp (.tup [V.str c, V.str ws[u]])) := (k5.trans (hS5.kt g6)).trans (KT.of (Same.upd (Same.refl K6) htp))
            have hTp : upd K6 tp (.tup [V.str c, V.str ws[u]]) tp = some (.tup [V.str c, V.str ws[u]]) := upd_same
            have e7 : Fr1 a Hi (upd K6 tp (.tup [V.str c, V.str ws[u]])) := (e5.trans g6).upd ((e5.trans g6).free (hK6.ne htp).symm htp)
            have hS7 : StAt (upd K6 tp (.tup [V.str c, V.str ws[u]])) a (n + 45 * (5 - i) - 14 - 13 * j) := hK6.upd (hK6.ne htp)
            have hc7 : upd K6 tp (.tup [V.str c, V.str ws[u]]) co = some (.lst (cs.map V.str ++ [.str c])) := by rw [upd_ne nct]; exact hc6
            generalize upd K6 tp (.tup [V.str c, V.str ws[u]]) = K7 at *
            refine ⟨re, ys, _, rfl, rfl, hr7, sizeLt (by omega), ?_⟩
            have k8 : KT K7 (upd K7 re (.lst (ys ++ [.ref tp]))) := (KT.refl K7).updL hr7
            refine ⟨cs ++ [c], ys ++ [.ref tp], rs ++ [(c, ws[u])], _, _, rfl, by simp [hcl], nd_snoc hcn ncs, fun x hx => ?_, ?_, by simp [hyl], upd_same, ?_, ?_, fun r hr => ?_, (hS7.upd nare).mono (by omega), e7.upd hre0⟩
            · rcases List.mem_append.mp hx with h | h
              · exact hcm x h
              · rw [List.mem_singleton.mp h]; exact nc
            · rw [upd_ne ncr, hc7, List.map_append]
              rfl
            · rw [List.map_append]
              exact (hTj.mono (k7.trans k8)).append (.cons (.tup (xs := [V.str c, V.str ws[u]]) (k8 _ _ hTp) (.cons (.str _) (.cons (.str _) .nil))) .nil)
            · rw [List.map_append, hrs]
              rfl
            · rcases List.mem_append.mp hr with h | h
              · exact hto r h
              · rw [List.mem_singleton.mp h]
                exact List.getElem_mem hu
        · rintro σ Hj ⟨cs, ys, rs, o2', o7', rfl, hcl, hcn, hcm, hcj, hyl, hrj, hTj, hrs, hto, hSj, ej⟩
          have hEj := ej _ _ nE.symm hEi
          refine ⟨_, rfl, .inl ⟨rfl, _, SqL.of hEj⟩, _, rfl, _, rfl, a, 2, n + 45 * (5 - (i + 1)), rfl, by decide, by decide, hSj.mono (by omega), fun u K1 u0 u1 hK1 g1 => ⟨rfl, ?_⟩⟩
          have hEk := g1 _ _ nE.symm hEj
          have hrk := g1 _ _ nare.symm hrj
          have fk := ej.trans g1
          have ktk := hSi.kt fk
          refine ⟨_, rfl, re, _, rfl, .inl ⟨SqL.of hrk, fun t1 ht1 => ⟨sizeL (by show 3 ≤ 100000; decide), fun t2 ht2 => ?_⟩⟩⟩
          have n12 : t1 ≠ t2 := fun e => by
            rw [e, upd_same] at ht2
            cases ht2
          have nE1 : E0 ≠ t1 := ne_of_none hEk ht1
          have ht2' : K1 t2 = none := by
            rw [upd_ne n12.symm] at ht2
            exact ht2
          have nE2 : E0 ≠ t2 := ne_of_none hEk ht2'
          have r1 := Same.upd (o := .tup ys) (Same.refl K1) ht1
          have r2 := Same.upd (o := .tup [V.str ws[i], .bl (decide (V.int u = V.int 0)), .ref t1]) r1 (r1.free ht2)
          have hE7 := r2 _ _ hEk
          have hS7 := hK1.same r2
          have hT1 : upd (upd K1 t1 (.tup ys)) t2 (.tup [V.str ws[i], .bl (decide (V.int u = V.int 0)), .ref t1]) t1 = some (.tup ys) := by rw [upd_ne n12, upd_same]
          have hT2 : upd (upd K1 t1 (.tup ys)) t2 (.tup [V.str ws[i], .bl (decide (V.int u = V.int 0)), .ref t1]) t2 = some (.tup [V.str ws[i], .bl (decide (V.int u = V.int 0)), .ref t1]) := upd_same
          have e7 : Fr1 a Hi (upd (upd K1 t1 (.tup ys)) t2 (.tup [V.str ws[i], .bl (decide (V.int u = V.int 0)), .ref t1])) := fk.trans (Fr1.of r2)
          generalize upd (upd K1 t1 (.tup ys)) t2 (.tup [V.str ws[i], .bl (decide (V.int u = V.int 0)), .ref t1]) = K7 at *
          refine ⟨E0, evs, _, rfl, rfl, hE7, sizeLt (by omega), ?_⟩
          have k8 : KT K7 (upd K7 E0 (.lst (evs ++ [.ref t2]))) := (KT.refl K7).updL hE7
          have ei7 := ei.trans e7
          refine ⟨evs ++ [.ref t2], pl ++ [(ws[i], decide (V.int u = V.int 0), rs)], _, _, _, _, _, rfl, hil, by simp [hel], upd_same, ?_, ?_, ?_, ?_, (hS7.upd nE).mono (by omega), ei7.upd hE0⟩
          · rw [List.map_append]
            exact (hTd.mono ((hSi.kt e7).trans k8)).append (.cons (.tup (xs := [V.str ws[i], .bl (decide (V.int u = V.int 0)), .ref t1]) (k8 _ _ hT2) (.cons (.str _) (.cons (.bl _) (.cons (.tup (xs := ys) (k8 _ _ hT1) (hTj.mono (((hSj.kt g1).trans (KT.of r2)).trans k8))) .nil)))) .nil)
          · rw [List.map_append, hpl, List.take_succ_eq_append_getElem hil]
            rfl
          · intro e he
            rcases List.mem_append.mp he with h | h
            · exact hgr e h
            · rw [List.mem_singleton.mp h]
              refine ⟨by show rs.length ≤ 3; have := congrArg List.length hrs; rw [List.length_map] at this; omega, fun r hr => hcm r.1 (by rw [← hrs]; exact List.mem_map.mpr ⟨r, hr, rfl⟩), hto, by show (rs.map (·.1)).Nodup; rw [hrs]; exact hcn⟩
          · rw [upd_ne npE]
            exact e7 _ _ nap.symm hpi
      · rintro σ Hi ⟨evs, pl, o2, o4, o5, o6, o7, rfl, hi, hel, hEi, hTd, hpl, hgr, hpi, hSi, ei⟩
        rw [List.length_map] at hpl hel hSi
        rw [List.take_length] at hpl
        have hpll : pl.length = ws.length := by rw [← hpl, List.length_map]
        refine ⟨_, rfl, E0, _, rfl, .inl ⟨SqL.of hEi, fun t ht => ?_⟩⟩
        refine q _ pl _ (.tup upd_same (hTd.mono (KT.of (Same.upd (Same.refl Hi) ht)))) ?_ ((hSi.upd (hSi.ne ht)).mono (by omega)) (ei.upd (ei.free (hSi.ne ht).symm ht))
        refine ⟨by omega, by omega, fun e he => hnm e.1 (by rw [← hpl]; exact List.mem_map.mpr ⟨e, he, rfl⟩), by rw [hpl]; exact hnd, fun e he => by rw [hpl]; exact hgr e he⟩
end My
namespace My
open PySem L2
def spStep : Sp := fun vs H Q _ => ∃ (a : Addr) (tv : V) (pl : Plan) (n : Nat), vs = [.ref a, tv] ∧ Td H tv (planD pl) ∧ Good pl ∧ StAt H a (n + 5) ∧ ∀ (v : V) (d : PyData) (H' : Hp), Td H' v d → StepD pl d → StAt H' a n → Fr1 a H H' → Q v H'
theorem three_at {j : Nat} (x y z : Str) (h : j < 3) : ∃ w, ([V.str x, .str y, .str z] : List V)[j]? = some (.str w) ∧ w ∈ [x, y, z] := by
  match j, h with
  | 0, _ => exact ⟨x, rfl, by simp⟩
  | 1, _ => exact ⟨y, rfl, by simp⟩
  | 2, _ => exact ⟨z, rfl, by simp⟩
theorem ok_law_step {P : Program} {w : World} {K : PySem.W.Frag} {mg : Str → Option Value} {base : Heap} {CS CP XCarryError XNoSchema XNoStep XNoText XNoKept XMissing XNoColumn XNoFlag XNoKey XNoRow XNoStops XNoStrokes XNoTable XNotClosed XNothingBegun XNotSafe XNotSame XRefused XTaken XT_MISSING_WORDS XT_COLUMN_STEPS : Addr} (T : Txt K mg CS CP XCarryError XNoSchema XNoStep XNoText XNoKept XMissing XNoColumn XNoFlag XNoKey XNoRow XNoStops XNoStrokes XNoTable XNotClosed XNothingBegun XNotSafe XNotSame XRefused XTaken XT_MISSING_WORDS XT_COLUMN_STEPS) : CallOk P w K mg base 2 "_law_step" spStep := by
  have c_law_draw := ok_law_draw (P := P) (w := w) (base := base) T
  refine T.d_law_step.ok sc_law_step (fun vs H Q E h => ?_) (fun f cdv A outer s H vs Q E hr h => ?_)
  · obtain ⟨a, tv, pl, n, rfl, _⟩ := h
    rfl
  · obtain ⟨a, tv, pl, n, rfl, hT, g, hS, q⟩ := h
    obtain ⟨t, txs, rfl, ht, hx⟩ := hT.tup_inv
    have hlx : txs.length = pl.length := by rw [hx.length, List.length_map]
    have hlo := g.lo
    have hhi := g.hi
    refine ⟨_, (pss_cons (ps_asg (pe_ix (kIxT (K := K)) (pv 1) (pe_callC c_law_draw (hr.mono (by decide)) (pa_cons (pv 0) (pa_cons (pe_callB (kLen (K := K)) (by rfl) T.n_len PySem.boot_len (pa_cons (pv 1) pa_nil)) pa_nil))) (fun _ _ => rfl)) (kPgT (K := K) (n := 3) rfl (pgs_cons (pg_name (i := 2) sc_law_step.nd rfl (by first | exact Or.inl rfl | exact Or.inr rfl)) (pgs_cons (pg_name (i := 3) sc_law_step.nd rfl (by first | exact Or.inl rfl | exact Or.inr rfl)) (pgs_cons (pg_name (i := 4) sc_law_step.nd rfl (by first | exact Or.inl rfl | exact Or.inr rfl)) pgs_nil)))))
      (pss_cons (ps_set (i := 5) sc_law_step.nd rfl (by first | exact Or.inl rfl | exact Or.inr rfl) (pe_callC c_law_draw (hr.mono (by decide)) (pa_cons (pv 0) (pa_cons pe_int pa_nil))))
      (pss_cons (ps_if (PW.pt (pw_or (pt_cmpR op_lt (pv 5) pe_int (nomark _)) (pw_or1 (pt_cmpR (kEqD (K := K) hr.units) (pv 4) (pe_tup pa_nil) (nomark _))))) (pss_one (ps_ret (pe_tup (pa_cons pe_str (pa_cons (pv 2) (pa_cons (pe_ix (kIxL (K := K)) (pe_lst (pa_cons pe_str (pa_cons pe_str (pa_cons pe_str pa_nil)))) (pe_callC c_law_draw (hr.mono (by decide)) (pa_cons (pv 0) (pa_cons pe_int pa_nil))) (fun _ _ => rfl)) (pa_cons (pe_cmpR op_eq (pe_callC c_law_draw (hr.mono (by decide)) (pa_cons (pv 0) (pa_cons pe_int pa_nil))) pe_int (nomark _)) pa_nil))))))) pss_nil)
      (pss_one (ps_ret (pe_tup (pa_cons (pe_ix (kIxL (K := K)) (pe_lst (pa_cons pe_str (pa_cons pe_str (pa_cons pe_str pa_nil)))) (pe_op op_sub (pv 5) pe_int) (fun _ _ => rfl)) (pa_cons (pv 2) (pa_cons (pe_ix (kIxT (K := K)) (pe_ix (kIxT (K := K)) (pv 4) (pe_callC c_law_draw (hr.mono (by decide)) (pa_cons (pv 0) (pa_cons (pe_callB (kLen (K := K)) (by rfl) T.n_len PySem.boot_len (pa_cons (pv 4) pa_nil)) pa_nil))) (fun _ _ => rfl)) pe_int (fun _ _ => rfl)) pa_nil))))))))), ?_⟩
    refine ⟨_, rfl, _, rfl, _, rfl, t, _, rfl, .inr (SqT.of ht), a, _, n + 4, rfl, by omega, by omega, hS.mono (by omega), fun j' G1 j0 j1 hS1 e1 => ?_⟩
    obtain ⟨j, rfl⟩ : ∃ j : Nat, j' = (j : Int) := ⟨j'.toNat, by omega⟩
    have hj : j < txs.length := by omega
    have kt1 := hS.kt e1
    have ht1 := kt1 _ _ ht
    have hxj := List.getElem?_eq_getElem hj
    obtain ⟨en, hen, hTd⟩ := (hx.mono kt1).getM hxj
    obtain ⟨tn, tr, rs, etn, htn, htr, hrs⟩ := entD_inv hTd
    rw [etn] at hxj
    have hem := List.mem_of_getElem? hen
    have gr := g.refs en hem
    have gl3 := gr.len
    have hlr : rs.length = en.2.2.length := by rw [hrs.length, List.length_map]
    refine ⟨t, _, _, _, rfl, rfl, SqT.of ht1, atI_nat hxj, tn, _, rfl, SqT.of htn, rfl, _, _, rfl, _, _, rfl, _, _, rfl, rfl, ?_⟩
    refine ⟨_, rfl, a, 5, n + 3, rfl, by decide, by decide, hS1.mono (by omega), fun way G2 w0 w1 hS2 e2 => ?_⟩
    have kt2 := hS1.kt e2
    have htr2 := kt2 _ _ htr
    have hrs2 := hrs.mono kt2
    have e02 := e1.trans e2
    refine ⟨_, rfl, _, _, rfl, rfl, _, rfl, ite2 (fun c0 => iteT ?ga) (fun c0 => ⟨_, rfl, sizeL (by show 0 ≤ 100000; decide), fun l hl => ?gb⟩)⟩
    case' ga => obtain ⟨Gx, hGx, hSx, ex⟩ : ∃ Gx, Gx = G2 ∧ StAt Gx a (n + 3) ∧ Fr1 a H Gx := ⟨_, rfl, hS2, e02⟩
    case' ga => subst hGx
    case' gb =>
      have r1 := Same.upd (o := .tup []) (Same.refl G2) hl
      have hl1 : upd G2 l (.tup []) l = some (.tup []) := upd_same
      have hSx := hS2.same r1
      have ex := e02.trans (Fr1.of r1)
      have hTr : Td (upd G2 l (.tup [])) (.ref tr) (refsD en.2.2) := .tup (r1 _ _ htr2) (hrs2.mono (KT.of r1))
      have htr3 := r1 _ _ htr2
      have hrs3 := hrs2.mono (KT.of r1)
      generalize upd G2 l (.tup []) = Gx at *
      refine ⟨refsD en.2.2, .tuple [], hTr.dp, (Td.tup hl1 .nil).dp, (g.refsD_fine hem).sh (by decide), (Fine.tup (n := 1) (by simp)).sh (by decide), (en.2.2.map refD).isEmpty, by unfold refsD; rw [eqv_tups_nil], ite2 (fun hb => ?gc) (fun hb => ?gd)⟩
    case gd =>
      have hne : en.2.2 ≠ [] := by
        intro z
        rw [z] at hb
        exact hb rfl
      have hpos : 0 < en.2.2.length := List.length_pos_iff.mpr hne
      have w2 : 2 ≤ way := by
        have := c0
        simp only [decide_eq_true_eq] at this
        omega
      refine ⟨sizeL (by show 3 ≤ 100000; decide), fun M hM => ?_⟩
      have r2 := Same.upd (o := .lst [.str "patch", .str "fill", .str "sweep"]) (Same.refl Gx) hM
      have hM1 : upd Gx M (.lst [.str "patch", .str "fill", .str "sweep"]) M = some (.lst [.str "patch", .str "fill", .str "sweep"]) := upd_same
      have hSy := hSx.same r2
      have ey := ex.trans (Fr1.of r2)
      have htr4 := r2 _ _ htr3
      have hrs4 := hrs3.mono (KT.of r2)
      generalize upd Gx M (.lst [.str "patch", .str "fill", .str "sweep"]) = Gy at *
      obtain ⟨m, rfl⟩ : ∃ m : Nat, way = (m : Int) + 2 := ⟨(way - 2).toNat, by omega⟩
      obtain ⟨w, hw, hwm⟩ := three_at (j := m) "patch" "fill" "sweep" (by omega)
      refine ⟨_, rfl, _, _, rfl, rfl, M, _, _, .str w, rfl, rfl, SqL.of hM1, ?_, ?_⟩
      · rw [show (m : Int) + 2 - 2 = (m : Int) by omega]
        exact atI_nat hw
      refine ⟨_, rfl, _, rfl, _, rfl, _, rfl, tr, _, rfl, .inr (SqT.of htr4), a, _, n, rfl, by omega, by omega, hSy.mono (by omega), fun z K1 z0 z1 hK1 g1 => ?_⟩
      obtain ⟨i, rfl⟩ : ∃ i : Nat, z = (i : Int) := ⟨z.toNat, by omega⟩
      have hi : i < rs.length := by omega
      have k1 := hSy.kt g1
      have hri := List.getElem?_eq_getElem hi
      obtain ⟨r, hr, hTr'⟩ := (hrs4.mono k1).getM hri
      obtain ⟨tt, ett, htt⟩ := refD_inv hTr'
      rw [ett] at hri
      refine ⟨tr, _, _, _, rfl, rfl, SqT.of (k1 _ _ htr4), atI_nat hri, tt, _, _, _, rfl, rfl, SqT.of htt, rfl, sizeL (by show 3 ≤ 100000; decide), fun u hu => ?_⟩
      refine q _ _ _ (.tup upd_same (.cons (.str _) (.cons (.str _) (.cons (.str _) .nil)))) (.col w en.1 r.1 hwm ⟨en, hem, rfl, List.mem_map.mpr ⟨r, List.mem_of_getElem? hr, rfl⟩⟩) (hK1.upd (hK1.ne hu)) ((ey.trans g1).upd ((ey.trans g1).free (hK1.ne hu).symm hu))
    all_goals
      refine ⟨_, rfl, sizeL (by show 3 ≤ 100000; decide), fun M hM => ?_⟩
      have r2 := Same.upd (o := .lst [.str "raw", .str "blank", .str "refuse"]) (Same.refl Gx) hM
      have hM1 : upd Gx M (.lst [.str "raw", .str "blank", .str "refuse"]) M = some (.lst [.str "raw", .str "blank", .str "refuse"]) := upd_same
      have hSy := hSx.same r2
      have ey := ex.trans (Fr1.of r2)
      refine ⟨_, rfl, a, 3, n + 1, rfl, by decide, by decide, hSy.mono (by omega), fun z K1 z0 z1 hK1 g1 => ?_⟩
      obtain ⟨i, rfl⟩ : ∃ i : Nat, z = (i : Int) := ⟨z.toNat, by omega⟩
      obtain ⟨w, hw, hwm⟩ := three_at (j := i) "raw" "blank" "refuse" (by omega)
      refine ⟨M, _, _, .str w, rfl, rfl, SqL.of (g1 _ _ (hSx.ne hM).symm hM1), atI_nat hw, ?_⟩
      refine ⟨_, rfl, a, 2, n, rfl, by decide, by decide, hK1.mono (by omega), fun u K2 u0 u1 hK2 g2 => ⟨rfl, sizeL (by show 4 ≤ 100000; decide), fun tp htp => ?_⟩⟩
      refine q _ _ _ (.tup upd_same (.cons (.str _) (.cons (.str _) (.cons (.str _) (.cons (.bl _) .nil))))) (.load en.1 w _ (List.mem_map.mpr ⟨en, hem, rfl⟩) hwm) (hK2.upd (hK2.ne htp)) (((ey.trans g1).trans g2).upd (((ey.trans g1).trans g2).free (hK2.ne htp).symm htp))
end My
namespace My
open PySem L2
def spOneOf (K : PySem.W.Frag) : Sp := fun vs H Q _ => ∃ v w : V, vs = [v, w] ∧ ((∃ t, TyX K H v t ∧ PySem.W.kitOne K t (.type "str") = some false ∧ Q (.bl false) H) ∨
  ∃ x, v = .str x ∧ ((∃ a o, w = .ref a ∧ DGet H a (.str x) o ∧ Q (.bl o.isSome) H) ∨ ∃ p xs, w = .ref p ∧ (SqL K H p xs ∨ SqT K H p xs) ∧ xs.all flatV = true ∧ Q (.bl (inV (.str x) xs)) H))
theorem ok_is_one_of {P : Program} {w : World} {K : PySem.W.Frag} {mg : Str → Option Value} {base : Heap} {CS CP XCarryError XNoSchema XNoStep XNoText XNoKept XMissing XNoColumn XNoFlag XNoKey XNoRow XNoStops XNoStrokes XNoTable XNotClosed XNothingBegun XNotSafe XNotSame XRefused XTaken XT_MISSING_WORDS XT_COLUMN_STEPS : Addr} (T : Txt K mg CS CP XCarryError XNoSchema XNoStep XNoText XNoKept XMissing XNoColumn XNoFlag XNoKey XNoRow XNoStops XNoStrokes XNoTable XNotClosed XNothingBegun XNotSafe XNotSame XRefused XTaken XT_MISSING_WORDS XT_COLUMN_STEPS) : CallOk P w K mg base 1 "is_one_of" (spOneOf K) := by
  refine T.d_is_one_of.ok sc_is_one_of (fun vs H Q E h => ?_) (fun f cdv A outer s H vs Q E hr h => ?_)
  · obtain ⟨v, w, rfl, _⟩ := h
    rfl
  · obtain ⟨v, w, rfl, h⟩ := h
    have hu := hu_of hr
    refine ⟨_, (pss_one (ps_ret (pe_and (pe_callB (kIsi (K := K)) (by rfl) T.n_isinstance (by decide +kernel) (pa_cons (pv 0) (pa_cons (pe_bltn (v := .ty "str") (by rfl) T.n_str (by decide +kernel) rfl) pa_nil))) (pe_one (pe_cmpR (kInG (K := K) hu) (pv 0) (pv 1) rfl))))), ?_⟩
    rcases h with ⟨t, ty, ko, q⟩ | ⟨x, rfl, h⟩
    · exact ⟨_, rfl, v, _, t, _, false, rfl, ClsV.ty "str", ty, ko, false, rfl, iteF q⟩
    · refine ⟨_, rfl, _, _, _, _, true, rfl, ClsV.ty "str", TyX.base (TyOf.str x), kit_ty (by decide +kernel), true, rfl, iteT ?_⟩
      refine ⟨_, rfl, _, rfl, ?_⟩
      rcases h with ⟨a, o, rfl, g, q⟩ | ⟨p, xs, rfl, hx, hf, q⟩
      · exact Or.inl ⟨a, o, rfl, g, q⟩
      · exact Or.inr ⟨p, xs, rfl, hx, rfl, hf, q⟩
end My
namespace My
open PySem L2
def spFlag : Sp := fun vs H Q _ => ∃ v d, vs = [v] ∧ Th H v d ∧ Q (.bl (isBoolD d)) H
theorem ok_is_flag {P : Program} {w : World} {K : PySem.W.Frag} {mg : Str → Option Value} {base : Heap} {CS CP XCarryError XNoSchema XNoStep XNoText XNoKept XMissing XNoColumn XNoFlag XNoKey XNoRow XNoStops XNoStrokes XNoTable XNotClosed XNothingBegun XNotSafe XNotSame XRefused XTaken XT_MISSING_WORDS XT_COLUMN_STEPS : Addr} (T : Txt K mg CS CP XCarryError XNoSchema XNoStep XNoText XNoKept XMissing XNoColumn XNoFlag XNoKey XNoRow XNoStops XNoStrokes XNoTable XNotClosed XNothingBegun XNotSafe XNotSame XRefused XTaken XT_MISSING_WORDS XT_COLUMN_STEPS) : CallOk P w K mg base 1 "is_flag" spFlag := by
  refine T.d_is_flag.ok sc_is_flag (fun vs H Q E h => ?_) (fun f cdv A outer s H vs Q E hr h => ?_)
  · obtain ⟨v, d, rfl, _⟩ := h
    rfl
  · obtain ⟨v, d, rfl, hT, q⟩ := h
    rw [← isD_or d] at q
    refine ⟨_, (pss_one (ps_ret (pe_or (pe_cmpR op_isAny (pv 0) pe_bl (nomark _)) (pe_one (pe_cmpR op_isAny (pv 0) pe_bl (nomark _)))))), ?_⟩
    refine ⟨_, rfl, true, d, rfl, hT, _, rfl, ite2 (fun c => ?_) (fun c => ?_)⟩
    · rw [show isD true d = true from c] at q
      exact q
    · rw [show isD true d = false by simpa using c] at q
      exact ⟨_, rfl, false, d, rfl, hT, q⟩
end My
namespace My
open PySem L2
def spName : Sp := fun vs H Q _ => ∃ v d, vs = [v] ∧ Th H v d ∧ Sh d ∧ ∀ H', Same H H' → Q (.bl (nameB d)) H'
theorem ok_is_name {P : Program} {w : World} {K : PySem.W.Frag} {mg : Str → Option Value} {base : Heap} {CS CP XCarryError XNoSchema XNoStep XNoText XNoKept XMissing XNoColumn XNoFlag XNoKey XNoRow XNoStops XNoStrokes XNoTable XNotClosed XNothingBegun XNotSafe XNotSame XRefused XTaken XT_MISSING_WORDS XT_COLUMN_STEPS : Addr} (T : Txt K mg CS CP XCarryError XNoSchema XNoStep XNoText XNoKept XMissing XNoColumn XNoFlag XNoKey XNoRow XNoStops XNoStrokes XNoTable XNotClosed XNothingBegun XNotSafe XNotSame XRefused XTaken XT_MISSING_WORDS XT_COLUMN_STEPS) : CallOk P w K mg base 1 "is_name" spName := by
  refine T.d_is_name.ok sc_is_name (fun vs H Q E h => ?_) (fun f cdv A outer s H vs Q E hr h => ?_)
  · obtain ⟨v, d, rfl, _⟩ := h
    rfl
  · obtain ⟨v, d, rfl, hT, hs, q⟩ := h
    refine ⟨_, (pss_cons (ps_if (PW.pt (pw_or (pt_not (pt_val (pe_callB (kIsi (K := K)) (by rfl) T.n_isinstance (by decide +kernel) (pa_cons (pv 0) (pa_cons (pe_bltn (v := .ty "str") (by rfl) T.n_str (by decide +kernel) rfl) pa_nil))))) (pw_or1 (pt_not (pt_chain op_le op_le pe_int (pe_callB call_len_str (by rfl) T.n_len PySem.boot_len (pa_cons (pv 0) pa_nil)) (pe_globV T.v_LONGEST_NAME)))))) (pss_one (ps_ret pe_bl)) pss_nil)
      (pss_one (ps_ret (pe_callB (kAll (K := K) rfl) (by rfl) T.n_all (by decide +kernel) (pa_cons (pe_lc (own := [("letter", 1)]) rfl sc_is_name.nd (pi_str (pv 0)) (blkOk_by (N := ["value", "letter"]) (sc := defScope s_is_name) (own := [("letter", 1)]) (by decide +kernel)) (fun _ _ _ _ _ => (pg_name (i := 1) sc_is_name.nd rfl (by first | exact Or.inl rfl | exact Or.inr rfl))) (fun _ _ _ _ _ => pts_nil) (fun _ _ _ _ _ => (pe_cmpR op_in_sign (pv 1) (pe_globV T.v_LETTERS) rfl))) pa_nil))))), ?_⟩
    by_cases hd : ∃ x, d = .str x
    case neg =>
      have n : ∀ x, d ≠ .str x := fun x e => hd ⟨x, e⟩
      obtain ⟨ty, hty, ko⟩ := hT.notStr (K := K) n
      rw [nameB_not n] at q
      exact ⟨_, rfl, _, _, _, _, false, rfl, ClsV.ty "str", hty, ko, false, rfl, iteT (q _ (Same.refl H))⟩
    obtain ⟨w, rfl⟩ := hd
    obtain rfl := hT.str_inv
    have hz : w.length ≤ sizeLine := sizeL (by have := hs.of_str; omega)
    refine ⟨_, rfl, _, _, _, _, true, rfl, ClsV.ty "str", TyX.base (TyOf.str w), kit_ty (by decide +kernel), _, rfl, iteF ?_⟩
    have q0 : ∀ H', Same H H' → decide (1 ≤ w.length ∧ w.length ≤ 8) = false → Q (.bl false) H' := fun H' e h => by
      have := q _ e
      rw [show nameB (.str w) = (decide (1 ≤ w.length ∧ w.length ≤ 8) && (cd w).all azB) from rfl, h] at this
      exact this
    refine ⟨_, rfl, w, rfl, hz, _, _, rfl, rfl, _, rfl, ite2 (fun l1 => ⟨_, _, rfl, rfl, _, rfl, ite2 (fun l8 => ?_) (fun l8 => ?_)⟩) (fun l1 => ?_)⟩
    · refine q0 _ (Same.refl H) (decide_eq_false fun z => ?_)
      rw [decide_eq_true (show (w.length : Int) ≤ 8 by omega)] at l8
      cases l8
    · have k1 : 1 ≤ w.length := by
        have := of_decide_eq_true l1
        omega
      have k8 : w.length ≤ 8 := by
        rcases Nat.lt_or_ge 8 w.length with z | z
        · exact absurd (by rw [decide_eq_false (show ¬ (w.length : Int) ≤ 8 by omega)]; rfl) l8
        · exact z
      have q1 : ∀ H', Same H H' → Q (.bl ((cd w).all azB)) H' := fun H' e => by
        have := q _ e
        rw [show nameB (.str w) = (decide (1 ≤ w.length ∧ w.length ≤ 8) && (cd w).all azB) from rfl, decide_eq_true ⟨k1, k8⟩] at this
        exact this
      refine ⟨_, rfl, _, rfl, fun D hD => lc_str (x := w) (fun i Hi => Hi D = some (.lst (((cd w).take i).map fun c => V.bl (azB c))) ∧ Same H Hi) ?_ ?_ ?_⟩
      · exact ⟨upd_same, Same.upd (Same.refl H) hD⟩
      · rintro i c Hi hc ⟨hl, e⟩
        rw [← Array.getElem?_toList] at hc
        have hc : (cd w)[i]? = some c := hc
        have hi := (List.getElem?_eq_some_iff.mp hc).1
        rw [← cd_len] at hi
        refine ⟨rfl, tYes_if ?_⟩
        refine ⟨_, rfl, c, abc, rfl, rfl, _, hl, sizeLt (by rw [List.length_map, List.length_take]; omega), ?_, ?_⟩
        · have e1 : decide (c ∈ abc.cps.toList) = azB c := decide_eq_decide.mpr (abc_mem c)
          rw [e1, upd_same, List.take_succ_eq_append_getElem (by rw [← cd_len]; exact hi), List.map_append, (List.getElem?_eq_some_iff.mp hc).2]
          rfl
        · exact Same.upd e hD
      · rintro Hi ⟨hl, e⟩
        have hs : w.cps.size = (cd w).length := rfl
        rw [hs, List.take_length] at hl
        refine ⟨D, (cd w).map azB, rfl, SqL.of (by rw [hl, List.map_map]; rfl), ?_⟩
        rw [show (((cd w).map azB).all id) = (cd w).all azB by rw [List.all_map]; rfl]
        exact q1 _ e
    · exact ⟨false, rfl, iteT (q0 _ (Same.refl H) (decide_eq_false fun z => l1 (decide_eq_true (by omega))))⟩
end My
namespace My
open PySem L2
def spRef : Sp := fun vs H Q _ => ∃ v d, vs = [v] ∧ Th H v d ∧ Sh d ∧ ∀ H', Same H H' → Q (.bl (refB d)) H'
theorem ok_is_reference {P : Program} {w : World} {K : PySem.W.Frag} {mg : Str → Option Value} {base : Heap} {CS CP XCarryError XNoSchema XNoStep XNoText XNoKept XMissing XNoColumn XNoFlag XNoKey XNoRow XNoStops XNoStrokes XNoTable XNotClosed XNothingBegun XNotSafe XNotSame XRefused XTaken XT_MISSING_WORDS XT_COLUMN_STEPS : Addr} (T : Txt K mg CS CP XCarryError XNoSchema XNoStep XNoText XNoKept XMissing XNoColumn XNoFlag XNoKey XNoRow XNoStops XNoStrokes XNoTable XNotClosed XNothingBegun XNotSafe XNotSame XRefused XTaken XT_MISSING_WORDS XT_COLUMN_STEPS) : CallOk P w K mg base 2 "_is_reference" spRef := by
  have c_is_name := ok_is_name (P := P) (w := w) (base := base) T
  refine T.d_is_reference.ok sc_is_reference (fun vs H Q E h => ?_) (fun f cdv A outer s H vs Q E hr h => ?_)
  · obtain ⟨v, d, rfl, _⟩ := h
    rfl
  · obtain ⟨v, d, rfl, hT, hs, q⟩ := h
    refine ⟨_, (pss_cons (ps_if (PW.pt (pw_or (pt_not (pt_val (pe_callB (kIsi (K := K)) (by rfl) T.n_isinstance (by decide +kernel) (pa_cons (pv 0) (pa_cons (pe_bltn (v := .ty "tuple") (by rfl) T.n_tuple (by decide +kernel) rfl) pa_nil))))) (pw_or1 (pt_cmpR op_ne (pe_callB (kLen (K := K)) (by rfl) T.n_len PySem.boot_len (pa_cons (pv 0) pa_nil)) pe_int (nomark _))))) (pss_one (ps_ret pe_bl)) pss_nil)
      (pss_cons (ps_asg (pv 0) (kPgT (K := K) (n := 2) rfl (pgs_cons (pg_name (i := 1) sc_is_reference.nd rfl (by first | exact Or.inl rfl | exact Or.inr rfl)) (pgs_cons (pg_name (i := 2) sc_is_reference.nd rfl (by first | exact Or.inl rfl | exact Or.inr rfl)) pgs_nil))))
      (pss_one (ps_ret (pe_and (pe_callC c_is_name (hr.mono (by decide)) (pa_cons (pv 1) pa_nil)) (pe_one (pe_callC c_is_name (hr.mono (by decide)) (pa_cons (pv 2) pa_nil)))))))), ?_⟩
    by_cases hd : ∃ ds, d = .tuple ds
    case neg =>
      have n : ∀ x, d ≠ .tuple x := fun x e => hd ⟨x, e⟩
      obtain ⟨ty, hty, ko⟩ := hT.notTup (K := K) n
      rw [refB_tup n] at q
      exact ⟨_, rfl, _, _, _, _, false, rfl, ClsV.ty "tuple", hty, ko, false, rfl, iteT (q _ (Same.refl H))⟩
    obtain ⟨ds, rfl⟩ := hd
    have hs' := hs.of_tup
    obtain ⟨t, xs, rfl, ht, hx⟩ := hT.tup_inv
    have hl : xs.length = ds.length := hx.length
    refine ⟨_, rfl, _, _, _, _, true, rfl, ClsV.ty "tuple", TyX.base (TyOf.tup ht), kit_ty (by decide +kernel), _, rfl, iteF ?_⟩
    refine ⟨_, rfl, t, _, rfl, .inr (SqT.of ht), rfl, _, rfl, ite2 (fun c => ?_) (fun c => ?_)⟩
    · rw [refB_len (fun z => by rw [hl, z] at c; cases c)] at q
      exact q _ (Same.refl H)
    have h2 : ds.length = 2 := by
      rcases Nat.decEq ds.length 2 with z | z
      · exact absurd (by rw [decide_eq_false (show ¬ V.int ((xs.length : Nat) : Int) = V.int 2 from fun y => z (by have := V.int.inj y; omega))]; rfl) c
      · exact z
    obtain ⟨a, b, rfl⟩ : ∃ a b, ds = [a, b] := match ds, h2 with
      | [a, b], _ => ⟨a, b, rfl⟩
    obtain ⟨x, y, rfl, h0, h1⟩ := hx.two
    refine ⟨_, rfl, t, _, rfl, SqT.of ht, rfl, _, _, rfl, _, _, rfl, rfl, ?_⟩
    refine ⟨_, rfl, x, a, rfl, h0, hs' _ (by simp), fun H1 e1 => ⟨_, rfl, ite2 (fun c => ?_) (fun c => ?_)⟩⟩
    · refine ⟨_, rfl, y, b, rfl, h1.same e1, hs' _ (by simp), fun H2 e2 => ?_⟩
      have := q _ (e1.trans e2)
      rw [show refB (.tuple [a, b]) = (nameB a && nameB b) from rfl, c] at this
      exact this
    · have c' : nameB a = false := by simpa using c
      have := q _ e1
      rw [show refB (.tuple [a, b]) = (nameB a && nameB b) from rfl, c'] at this
      exact this
end My
namespace My
open PySem L2
def spDistinct (K : PySem.W.Frag) : Sp := fun vs H Q _ => ∃ (p : Addr) (ws : List Str), vs = [.ref p] ∧ SqL K H p (ws.map V.str) ∧ ws.length ≤ 1000 ∧ ∀ b, (b = true ↔ ws.Nodup) → Q (.bl b) H
theorem ok_are_distinct {P : Program} {w : World} {K : PySem.W.Frag} {mg : Str → Option Value} {base : Heap} {CS CP XCarryError XNoSchema XNoStep XNoText XNoKept XMissing XNoColumn XNoFlag XNoKey XNoRow XNoStops XNoStrokes XNoTable XNotClosed XNothingBegun XNotSafe XNotSame XRefused XTaken XT_MISSING_WORDS XT_COLUMN_STEPS : Addr} (T : Txt K mg CS CP XCarryError XNoSchema XNoStep XNoText XNoKept XMissing XNoColumn XNoFlag XNoKey XNoRow XNoStops XNoStrokes XNoTable XNotClosed XNothingBegun XNotSafe XNotSame XRefused XTaken XT_MISSING_WORDS XT_COLUMN_STEPS) : CallOk P w K mg base 1 "_are_distinct" (spDistinct K) := by
  refine T.d_are_distinct.ok sc_are_distinct (fun vs H Q E h => ?_) (fun f cdv A outer s H vs Q E hr h => ?_)
  · obtain ⟨p, ws, rfl, _⟩ := h
    rfl
  · obtain ⟨p, ws, rfl, hp, hl, q⟩ := h
    refine ⟨_, (pss_one (ps_ret (pe_cmpR op_eq (pe_lenSetS T.n_len T.n_set (pv 0)) (pe_callB (kLen (K := K)) (by rfl) T.n_len PySem.boot_len (pa_cons (pv 0) pa_nil)) (nomark _)))), ?_⟩
    refine ⟨_, rfl, p, ws, rfl, hp, hl, _, rfl, p, _, rfl, .inl hp, rfl, q _ ?_⟩
    rw [List.length_map, decide_eq_true_eq]
    by_cases h : ws.Nodup
    · rw [onces_nodup ws h]
      exact ⟨fun _ => h, fun _ => rfl⟩
    · have := onces_lt ws h
      refine ⟨fun e => ?_, fun e => absurd e h⟩
      have e : (((onces ws).length : Nat) : Int) = ((ws.length : Nat) : Int) := V.int.inj e
      omega
end My
namespace My
open PySem L2
def spRefs : Sp := fun vs H Q _ => ∃ v d, vs = [v] ∧ Th H v d ∧ Sh d ∧ ∀ H', Same H H' → Q (.bl (refsB d)) H'
theorem all_id (ds : List PyData) (f : PyData → Bool) : ((ds.map f).all id) = ds.all f := by
  rw [List.all_map]
  rfl
theorem ok_are_references {P : Program} {w : World} {K : PySem.W.Frag} {mg : Str → Option Value} {base : Heap} {CS CP XCarryError XNoSchema XNoStep XNoText XNoKept XMissing XNoColumn XNoFlag XNoKey XNoRow XNoStops XNoStrokes XNoTable XNotClosed XNothingBegun XNotSafe XNotSame XRefused XTaken XT_MISSING_WORDS XT_COLUMN_STEPS : Addr} (T : Txt K mg CS CP XCarryError XNoSchema XNoStep XNoText XNoKept XMissing XNoColumn XNoFlag XNoKey XNoRow XNoStops XNoStrokes XNoTable XNotClosed XNothingBegun XNotSafe XNotSame XRefused XTaken XT_MISSING_WORDS XT_COLUMN_STEPS) : CallOk P w K mg base 3 "_are_references" spRefs := by
  have c_are_distinct := ok_are_distinct (P := P) (w := w) (base := base) T
  have c_is_reference := ok_is_reference (P := P) (w := w) (base := base) T
  refine T.d_are_references.ok sc_are_references (fun vs H Q E h => ?_) (fun f cdv A outer s H vs Q E hr h => ?_)
  · obtain ⟨v, d, rfl, _⟩ := h
    rfl
  · obtain ⟨v, d, rfl, hT, hs, q⟩ := h
    refine ⟨_, (pss_cons (ps_if (PW.pt (pw_or (pt_not (pt_val (pe_callB (kIsi (K := K)) (by rfl) T.n_isinstance (by decide +kernel) (pa_cons (pv 0) (pa_cons (pe_bltn (v := .ty "tuple") (by rfl) T.n_tuple (by decide +kernel) rfl) pa_nil))))) (pw_or1 (pt_cmpR op_gt (pe_callB (kLen (K := K)) (by rfl) T.n_len PySem.boot_len (pa_cons (pv 0) pa_nil)) (pe_globV T.v_MOST_REFERENCES) (nomark _))))) (pss_one (ps_ret pe_bl)) pss_nil)
      (pss_cons (ps_if (pt_not (pt_val (pe_callB (kAll (K := K) rfl) (by rfl) T.n_all (by decide +kernel) (pa_cons (pe_lc (own := [("item", 1)]) rfl sc_are_references.nd (kPiT (K := K) (pv 0)) (blkOk_by (N := ["value", "item"]) (sc := defScope s_are_references) (own := [("item", 1)]) (by decide +kernel)) (fun _ _ _ _ _ => (pg_name (i := 1) sc_are_references.nd rfl (by first | exact Or.inl rfl | exact Or.inr rfl))) (fun _ _ _ _ _ => pts_nil) (fun _ _ _ _ _ => (pe_callC c_is_reference (hr.mono (by decide)) (pa_cons (pv 1) pa_nil)))) pa_nil)))) (pss_one (ps_ret pe_bl)) pss_nil)
      (pss_one (ps_ret (pe_callC c_are_distinct (hr.mono (by decide)) (pa_cons (pe_lc (own := [("item", 1)]) rfl sc_are_references.nd (kPiT (K := K) (pv 0)) (blkOk_by (N := ["value", "item"]) (sc := defScope s_are_references) (own := [("item", 1)]) (by decide +kernel)) (fun _ _ _ _ _ => (pg_name (i := 1) sc_are_references.nd rfl (by first | exact Or.inl rfl | exact Or.inr rfl))) (fun _ _ _ _ _ => pts_nil) (fun _ _ _ _ _ => (pe_ix (kIxT (K := K)) (pv 1) pe_int (fun _ _ => rfl)))) pa_nil)))))), ?_⟩
    by_cases hd : ∃ ds, d = .tuple ds
    case neg =>
      have n : ∀ x, d ≠ .tuple x := fun x e => hd ⟨x, e⟩
      obtain ⟨ty, hty, ko⟩ := hT.notTup (K := K) n
      rw [refsB_tup n] at q
      exact ⟨_, rfl, _, _, _, _, false, rfl, ClsV.ty "tuple", hty, ko, false, rfl, iteT (q _ (Same.refl H))⟩
    obtain ⟨ds, rfl⟩ := hd
    have hs' := hs.of_tup
    have hval : refsB (.tuple ds) = (decide (ds.length ≤ 3) && (ds.all refB && decide ((ds.map fstS).Nodup))) := rfl
    obtain ⟨t, xs, rfl, ht, hx⟩ := hT.tup_inv
    have hlx : xs.length = ds.length := hx.length
    refine ⟨_, rfl, _, _, _, _, true, rfl, ClsV.ty "tuple", TyX.base (TyOf.tup ht), kit_ty (by decide +kernel), _, rfl, iteF ?_⟩
    refine ⟨_, rfl, t, _, rfl, .inr (SqT.of ht), _, _, rfl, rfl, _, rfl, ite2 (fun c => ?_) (fun c => ?_)⟩
    · have c3 : ¬ ds.length ≤ 3 := fun z => by
        have := of_decide_eq_true c
        omega
      rw [hval, decide_eq_false c3] at q
      exact q _ (Same.refl H)
    have c3 : ds.length ≤ 3 := by
      rcases Nat.lt_or_ge 3 ds.length with z | z
      · exact absurd (decide_eq_true (show (3 : Int) < (xs.length : Int) by omega)) c
      · exact z
    rw [decide_eq_true c3, Bool.true_and] at hval
    refine ⟨_, rfl, t, rfl, ⟨_, SqT.of ht⟩, fun D hD => lc_tup (K := K) (a := t) (xs := xs) (fun i Hi => i ≤ xs.length ∧ Hi D = some (.lst (((ds.take i).map refB).map V.bl)) ∧ Same H Hi) ?_ ?_ ?_ ?_⟩
    · exact ⟨Nat.zero_le _, upd_same, Same.upd (Same.refl H) hD⟩
    · rintro i Hi _ ⟨_, _, e⟩
      exact SqT.of (e t _ ht)
    · rintro i x Hi hxi ⟨hi, hl, e⟩
      have hil : i < xs.length := (List.getElem?_eq_some_iff.mp hxi).1
      obtain ⟨d, hd, hTd⟩ := hx.get hxi
      refine ⟨rfl, tYes_if ?_⟩
      refine ⟨_, rfl, x, d, rfl, hTd.same e, hs' _ (List.mem_of_getElem? hd), fun H2 e2 => ?_⟩
      refine ⟨_, e2 D _ hl, sizeLt (by rw [List.length_map, List.length_map, List.length_take]; omega), hil, ?_, Same.upd (e.trans e2) hD⟩
      rw [upd_same, List.take_succ_eq_append_getElem (by omega), List.map_append, List.map_append, (List.getElem?_eq_some_iff.mp hd).2]
      rfl
    · rintro Hi ⟨_, hl, e⟩
      rw [hlx, List.take_length] at hl
      refine ⟨D, ds.map refB, rfl, SqL.of hl, _, rfl, ?_⟩
      rw [all_id]
      refine ite2 (fun c => ?_) (fun c => ?_)
      · have c' : ds.all refB = false := by simpa using c
        rw [hval, c'] at q
        exact q _ e
      have c' : ds.all refB = true := by simpa using c
      rw [hval, c', Bool.true_and] at q
      obtain ⟨rs, rfl, hrs⟩ := map_of (f := refD) (p := fun r => Nm r.1 ∧ Nm r.2) fun d hd => refB_inv (List.all_eq_true.mp c' d hd)
      rw [fst_refs] at q
      rw [List.length_map] at hlx c3
      have hx := hx.mapTd fun v a _ h => h.ref
      have ht' := e t _ ht
      refine ⟨_, rfl, t, rfl, ⟨_, SqT.of ht'⟩, fun D2 hD2 => lc_tup (K := K) (a := t) (xs := xs) (fun i Hj => i ≤ xs.length ∧ Hj D2 = some (.lst ((rs.map (·.1)).take i |>.map V.str)) ∧ Same Hi Hj) ?_ ?_ ?_ ?_⟩
      · exact ⟨Nat.zero_le _, upd_same, Same.upd (Same.refl Hi) hD2⟩
      · rintro i Hj _ ⟨_, _, e2⟩
        exact SqT.of (e2 t _ ht')
      · rintro i x Hj hxi ⟨hi, hl2, e2⟩
        have hil : i < xs.length := (List.getElem?_eq_some_iff.mp hxi).1
        obtain ⟨r, hri, hTd⟩ := hx.getM hxi
        obtain ⟨tr, rfl, htr⟩ := refD_inv hTd
        have hrl : i < (rs.map (·.1)).length := by rw [List.length_map]; omega
        refine ⟨rfl, tYes_if ?_⟩
        refine ⟨_, rfl, tr, _, _, _, rfl, rfl, SqT.of (e2 tr _ (e tr _ htr)), rfl, ?_⟩
        refine ⟨_, hl2, sizeLt (by rw [List.length_map, List.length_take]; omega), hil, ?_, Same.upd e2 hD2⟩
        rw [upd_same, List.take_succ_eq_append_getElem hrl, List.map_append]
        have er : (rs.map (·.1))[i] = r.1 := by
          rw [List.getElem_map]
          rw [(List.getElem?_eq_some_iff.mp hri).2]
        rw [er]
        rfl
      · rintro Hj ⟨_, hl2, e2⟩
        refine ⟨D2, rs.map (·.1), rfl, SqL.of ?_, by rw [List.length_map]; omega, fun b hb => ?_⟩
        · rw [hl2, List.take_of_length_le (by rw [List.length_map]; omega)]
        · rw [show b = decide ((rs.map (·.1)).Nodup) by rw [Bool.eq_iff_iff, hb, decide_eq_true_iff]]
          exact q _ (e.trans e2)
end My
namespace My
open PySem L2
def spTable : Sp := fun vs H Q _ => ∃ v d, vs = [v] ∧ Th H v d ∧ Sh d ∧ ∀ H', Same H H' → Q (.bl (tabB d)) H'
theorem ok_is_table {P : Program} {w : World} {K : PySem.W.Frag} {mg : Str → Option Value} {base : Heap} {CS CP XCarryError XNoSchema XNoStep XNoText XNoKept XMissing XNoColumn XNoFlag XNoKey XNoRow XNoStops XNoStrokes XNoTable XNotClosed XNothingBegun XNotSafe XNotSame XRefused XTaken XT_MISSING_WORDS XT_COLUMN_STEPS : Addr} (T : Txt K mg CS CP XCarryError XNoSchema XNoStep XNoText XNoKept XMissing XNoColumn XNoFlag XNoKey XNoRow XNoStops XNoStrokes XNoTable XNotClosed XNothingBegun XNotSafe XNotSame XRefused XTaken XT_MISSING_WORDS XT_COLUMN_STEPS) : CallOk P w K mg base 4 "_is_table" spTable := by
  have c_are_references := ok_are_references (P := P) (w := w) (base := base) T
  have c_is_flag := ok_is_flag (P := P) (w := w) (base := base) T
  have c_is_name := ok_is_name (P := P) (w := w) (base := base) T
  refine T.d_is_table.ok sc_is_table (fun vs H Q E h => ?_) (fun f cdv A outer s H vs Q E hr h => ?_)
  · obtain ⟨v, d, rfl, _⟩ := h
    rfl
  · obtain ⟨v, d, rfl, hT, hs, q⟩ := h
    refine ⟨_, (pss_cons (ps_if (PW.pt (pw_or (pt_not (pt_val (pe_callB (kIsi (K := K)) (by rfl) T.n_isinstance (by decide +kernel) (pa_cons (pv 0) (pa_cons (pe_bltn (v := .ty "tuple") (by rfl) T.n_tuple (by decide +kernel) rfl) pa_nil))))) (pw_or1 (pt_cmpR op_ne (pe_callB (kLen (K := K)) (by rfl) T.n_len PySem.boot_len (pa_cons (pv 0) pa_nil)) pe_int (nomark _))))) (pss_one (ps_ret pe_bl)) pss_nil)
      (pss_cons (ps_asg (pv 0) (kPgT (K := K) (n := 3) rfl (pgs_cons (pg_name (i := 1) sc_is_table.nd rfl (by first | exact Or.inl rfl | exact Or.inr rfl)) (pgs_cons (pg_name (i := 2) sc_is_table.nd rfl (by first | exact Or.inl rfl | exact Or.inr rfl)) (pgs_cons (pg_name (i := 3) sc_is_table.nd rfl (by first | exact Or.inl rfl | exact Or.inr rfl)) pgs_nil)))))
      (pss_one (ps_ret (pe_and (pe_callC c_is_name (hr.mono (by decide)) (pa_cons (pv 1) pa_nil)) (pe_and (pe_callC c_is_flag (hr.mono (by decide)) (pa_cons (pv 2) pa_nil)) (pe_one (pe_callC c_are_references (hr.mono (by decide)) (pa_cons (pv 3) pa_nil))))))))), ?_⟩
    by_cases hd : ∃ ds, d = .tuple ds
    case neg =>
      have n : ∀ x, d ≠ .tuple x := fun x e => hd ⟨x, e⟩
      obtain ⟨ty, hty, ko⟩ := hT.notTup (K := K) n
      rw [tabB_tup n] at q
      exact ⟨_, rfl, _, _, _, _, false, rfl, ClsV.ty "tuple", hty, ko, false, rfl, iteT (q _ (Same.refl H))⟩
    obtain ⟨ds, rfl⟩ := hd
    have hs' := hs.of_tup
    obtain ⟨t, xs, rfl, ht, hx⟩ := hT.tup_inv
    have hl : xs.length = ds.length := hx.length
    refine ⟨_, rfl, _, _, _, _, true, rfl, ClsV.ty "tuple", TyX.base (TyOf.tup ht), kit_ty (by decide +kernel), _, rfl, iteF ?_⟩
    refine ⟨_, rfl, t, _, rfl, .inr (SqT.of ht), rfl, _, rfl, ite2 (fun c => ?_) (fun c => ?_)⟩
    · rw [tabB_len (fun z => by rw [hl, z] at c; cases c)] at q
      exact q _ (Same.refl H)
    have h3 : ds.length = 3 := by
      rcases Nat.decEq ds.length 3 with z | z
      · exact absurd (by rw [decide_eq_false (show ¬ V.int ((xs.length : Nat) : Int) = V.int 3 from fun y => z (by have := V.int.inj y; omega))]; rfl) c
      · exact z
    obtain ⟨n, u, r, rfl⟩ : ∃ a b c, ds = [a, b, c] := match ds, h3 with
      | [a, b, c], _ => ⟨a, b, c, rfl⟩
    have hval : tabB (.tuple [n, u, r]) = (nameB n && (isBoolD u && refsB r)) := rfl
    rw [hval] at q
    obtain ⟨x, y, z, rfl, h0, h1, h2⟩ := hx.three
    refine ⟨_, rfl, t, _, rfl, SqT.of ht, rfl, _, _, rfl, _, _, rfl, _, _, rfl, rfl, ?_⟩
    refine ⟨_, rfl, x, n, rfl, h0, hs' _ (by simp), fun H1 e1 => ⟨_, rfl, ite2 (fun c => ?_) (fun c => ?_)⟩⟩
    · rw [c, Bool.true_and] at q
      refine ⟨_, rfl, y, u, rfl, h1.same e1, _, rfl, ite2 (fun k => ?_) (fun k => ?_)⟩
      · rw [k, Bool.true_and] at q
        exact ⟨_, rfl, z, r, rfl, h2.same e1, hs' _ (by simp), fun H2 e2 => q _ (e1.trans e2)⟩
      · rw [show isBoolD u = false by simpa using k] at q
        exact q _ e1
    · rw [show nameB n = false by simpa using c] at q
      exact q _ e1
end My
namespace My
open PySem L2
def spAreTables : Sp := fun vs H Q _ => ∃ v d, vs = [v] ∧ ThT H v d ∧ Sh d ∧ ∀ H', Same H H' → Q (.bl (tabsB d)) H'
theorem ok_are_tables {P : Program} {w : World} {K : PySem.W.Frag} {mg : Str → Option Value} {base : Heap} {CS CP XCarryError XNoSchema XNoStep XNoText XNoKept XMissing XNoColumn XNoFlag XNoKey XNoRow XNoStops XNoStrokes XNoTable XNotClosed XNothingBegun XNotSafe XNotSame XRefused XTaken XT_MISSING_WORDS XT_COLUMN_STEPS : Addr} (T : Txt K mg CS CP XCarryError XNoSchema XNoStep XNoText XNoKept XMissing XNoColumn XNoFlag XNoKey XNoRow XNoStops XNoStrokes XNoTable XNotClosed XNothingBegun XNotSafe XNotSame XRefused XTaken XT_MISSING_WORDS XT_COLUMN_STEPS) : CallOk P w K mg base 5 "are_tables" spAreTables := by
  have c_are_distinct := ok_are_distinct (P := P) (w := w) (base := base) T
  have c_is_table := ok_is_table (P := P) (w := w) (base := base) T
  refine T.d_are_tables.ok sc_are_tables (fun vs H Q E h => ?_) (fun f cdv A outer s H vs Q E hr h => ?_)
  · obtain ⟨v, d, rfl, _⟩ := h
    rfl
  · obtain ⟨v, d, rfl, hT, hs, q⟩ := h
    refine ⟨_, (pss_cons (ps_if (PW.pt (pw_or (pt_not (pt_val (pe_callB (kIsi (K := K)) (by rfl) T.n_isinstance (by decide +kernel) (pa_cons (pv 0) (pa_cons (pe_bltn (v := .ty "tuple") (by rfl) T.n_tuple (by decide +kernel) rfl) pa_nil))))) (pw_or1 (pt_not (pt_chain op_le op_le pe_int (pe_callB (kLen (K := K)) (by rfl) T.n_len PySem.boot_len (pa_cons (pv 0) pa_nil)) (pe_globV T.v_MOST_TABLES)))))) (pss_one (ps_ret pe_bl)) pss_nil)
      (pss_cons (ps_if (pt_not (pt_val (pe_callB (kAll (K := K) rfl) (by rfl) T.n_all (by decide +kernel) (pa_cons (pe_lc (own := [("item", 1)]) rfl sc_are_tables.nd (kPiT (K := K) (pv 0)) (blkOk_by (N := ["value", "item"]) (sc := defScope s_are_tables) (own := [("item", 1)]) (by decide +kernel)) (fun _ _ _ _ _ => (pg_name (i := 1) sc_are_tables.nd rfl (by first | exact Or.inl rfl | exact Or.inr rfl))) (fun _ _ _ _ _ => pts_nil) (fun _ _ _ _ _ => (pe_callC c_is_table (hr.mono (by decide)) (pa_cons (pv 1) pa_nil)))) pa_nil)))) (pss_one (ps_ret pe_bl)) pss_nil)
      (pss_one (ps_ret (pe_callC c_are_distinct (hr.mono (by decide)) (pa_cons (pe_lc (own := [("item", 1)]) rfl sc_are_tables.nd (kPiT (K := K) (pv 0)) (blkOk_by (N := ["value", "item"]) (sc := defScope s_are_tables) (own := [("item", 1)]) (by decide +kernel)) (fun _ _ _ _ _ => (pg_name (i := 1) sc_are_tables.nd rfl (by first | exact Or.inl rfl | exact Or.inr rfl))) (fun _ _ _ _ _ => pts_nil) (fun _ _ _ _ _ => (pe_ix (kIxT (K := K)) (pv 1) pe_int (fun _ _ => rfl)))) pa_nil)))))), ?_⟩
    by_cases hd : ∃ ds, d = .tuple ds
    case neg =>
      have n : ∀ x, d ≠ .tuple x := fun x e => hd ⟨x, e⟩
      obtain ⟨ty, hty, ko⟩ := hT.notTup (K := K) n
      rw [tabsB_tup n] at q
      exact ⟨_, rfl, _, _, _, _, false, rfl, ClsV.ty "tuple", hty, ko, false, rfl, iteT (q _ (Same.refl H))⟩
    obtain ⟨ds, rfl⟩ := hd
    have hs' := hs.of_tup
    have hval : tabsB (.tuple ds) = (decide (1 ≤ ds.length ∧ ds.length ≤ 5) && (ds.all tabB && decide ((ds.map fstS).Nodup))) := rfl
    rw [hval] at q
    obtain ⟨t, xs, rfl, ht, hx⟩ := hT.tup.tup_inv
    have hlx : xs.length = ds.length := hx.length
    refine ⟨_, rfl, _, _, _, _, true, rfl, ClsV.ty "tuple", TyX.base (TyOf.tup ht), kit_ty (by decide +kernel), _, rfl, iteF ?_⟩
    refine ⟨_, rfl, t, _, rfl, .inr (SqT.of ht), _, _, rfl, rfl, _, rfl, ite2 (fun l1 => ⟨_, _, rfl, rfl, _, rfl, ite2 (fun l8 => ?_) (fun l8 => ?_)⟩) (fun l1 => ?_)⟩
    · rw [decide_eq_false (fun z => by
        rw [decide_eq_true (show (xs.length : Int) ≤ 5 by omega)] at l8
        cases l8)] at q
      exact q _ (Same.refl H)
    case refine_3 =>
      rw [decide_eq_false (fun z => l1 (decide_eq_true (by omega)))] at q
      exact ⟨false, rfl, iteT (q _ (Same.refl H))⟩
    have k1 : 1 ≤ ds.length := by
      have := of_decide_eq_true l1
      omega
    have k8 : ds.length ≤ 5 := by
      rcases Nat.lt_or_ge 5 ds.length with z | z
      · exact absurd (by rw [decide_eq_false (show ¬ (xs.length : Int) ≤ 5 by omega)]; rfl) l8
      · exact z
    rw [decide_eq_true ⟨k1, k8⟩, Bool.true_and] at q
    refine ⟨_, rfl, t, rfl, ⟨_, SqT.of ht⟩, fun D hD => lc_tup (K := K) (a := t) (xs := xs) (fun i Hi => i ≤ xs.length ∧ Hi D = some (.lst (((ds.take i).map tabB).map V.bl)) ∧ Same H Hi) ?_ ?_ ?_ ?_⟩
    · exact ⟨Nat.zero_le _, upd_same, Same.upd (Same.refl H) hD⟩
    · rintro i Hi _ ⟨_, _, e⟩
      exact SqT.of (e t _ ht)
    · rintro i x Hi hxi ⟨hi, hl, e⟩
      have hil : i < xs.length := (List.getElem?_eq_some_iff.mp hxi).1
      obtain ⟨d, hd, hTd⟩ := hx.get hxi
      refine ⟨rfl, tYes_if ?_⟩
      refine ⟨_, rfl, x, d, rfl, hTd.same e, hs' _ (List.mem_of_getElem? hd), fun H2 e2 => ?_⟩
      refine ⟨_, e2 D _ hl, sizeLt (by rw [List.length_map, List.length_map, List.length_take]; omega), hil, ?_, Same.upd (e.trans e2) hD⟩
      rw [upd_same, List.take_succ_eq_append_getElem (by omega), List.map_append, List.map_append, (List.getElem?_eq_some_iff.mp hd).2]
      rfl
    · rintro Hi ⟨_, hl, e⟩
      rw [hlx, List.take_length] at hl
      refine ⟨D, ds.map tabB, rfl, SqL.of hl, _, rfl, ?_⟩
      rw [all_id]
      refine ite2 (fun c => ?_) (fun c => ?_)
      · rw [show ds.all tabB = false by simpa using c] at q
        exact q _ e
      have c' : ds.all tabB = true := by simpa using c
      rw [c', Bool.true_and] at q
      obtain ⟨es, rfl, hes⟩ := map_of (f := entD) (p := fun e => Nm e.1 ∧ GoodRefs0 e.2.2) fun d hd => tabB_inv (List.all_eq_true.mp c' d hd)
      rw [fst_ents] at q
      rw [List.length_map] at hlx k1 k8
      have hx := hx.mapTd fun v a _ h => h.ent
      have ht' := e t _ ht
      refine ⟨_, rfl, t, rfl, ⟨_, SqT.of ht'⟩, fun D2 hD2 => lc_tup (K := K) (a := t) (xs := xs) (fun i Hj => i ≤ xs.length ∧ Hj D2 = some (.lst ((es.map (·.1)).take i |>.map V.str)) ∧ Same Hi Hj) ?_ ?_ ?_ ?_⟩
      · exact ⟨Nat.zero_le _, upd_same, Same.upd (Same.refl Hi) hD2⟩
      · rintro i Hj _ ⟨_, _, e2⟩
        exact SqT.of (e2 t _ ht')
      · rintro i x Hj hxi ⟨hi, hl2, e2⟩
        have hil : i < xs.length := (List.getElem?_eq_some_iff.mp hxi).1
        obtain ⟨en, hen, hTd⟩ := hx.getM hxi
        obtain ⟨tn, tr, rs, rfl, htn, htr, hrs⟩ := entD_inv hTd
        have hrl : i < (es.map (·.1)).length := by rw [List.length_map]; omega
        refine ⟨rfl, tYes_if ?_⟩
        refine ⟨_, rfl, tn, _, _, _, rfl, rfl, SqT.of (e2 tn _ (e tn _ htn)), rfl, ?_⟩
        refine ⟨_, hl2, sizeLt (by rw [List.length_map, List.length_take]; omega), hil, ?_, Same.upd e2 hD2⟩
        rw [upd_same, List.take_succ_eq_append_getElem hrl, List.map_append]
        have er : (es.map (·.1))[i] = en.1 := by
          rw [List.getElem_map]
          rw [(List.getElem?_eq_some_iff.mp hen).2]
        rw [er]
        rfl
      · rintro Hj ⟨_, hl2, e2⟩
        refine ⟨D2, es.map (·.1), rfl, SqL.of ?_, by rw [List.length_map]; omega, fun b hb => ?_⟩
        · rw [hl2, List.take_of_length_le (by rw [List.length_map]; omega)]
        · rw [show b = decide ((es.map (·.1)).Nodup) by rw [Bool.eq_iff_iff, hb, decide_eq_true_iff]]
          exact q _ (e.trans e2)
end My
namespace My
open PySem L2
def spWithin : Sp := fun vs H Q _ => ∃ v pl, vs = [v] ∧ Td H v (planD pl) ∧ Good0 pl ∧ ∀ H', Same H H' → Q (.bl (toB pl)) H'
theorem ok_refer_within {P : Program} {w : World} {K : PySem.W.Frag} {mg : Str → Option Value} {base : Heap} {CS CP XCarryError XNoSchema XNoStep XNoText XNoKept XMissing XNoColumn XNoFlag XNoKey XNoRow XNoStops XNoStrokes XNoTable XNotClosed XNothingBegun XNotSafe XNotSame XRefused XTaken XT_MISSING_WORDS XT_COLUMN_STEPS : Addr} (T : Txt K mg CS CP XCarryError XNoSchema XNoStep XNoText XNoKept XMissing XNoColumn XNoFlag XNoKey XNoRow XNoStops XNoStrokes XNoTable XNotClosed XNothingBegun XNotSafe XNotSame XRefused XTaken XT_MISSING_WORDS XT_COLUMN_STEPS) : CallOk P w K mg base 1 "refer_within" spWithin := by
  refine T.d_refer_within.ok sc_refer_within (fun vs H Q E h => ?_) (fun f cdv A outer s H vs Q E hr h => ?_)
  · obtain ⟨v, pl, rfl, _⟩ := h
    rfl
  · obtain ⟨v, pl, rfl, hv, g, q⟩ := h
    obtain ⟨t, xs, rfl, ht, hx⟩ := hv.tup_inv
    have hlx : xs.length = pl.length := by rw [hx.length, List.length_map]
    have hi5 := g.hi
    refine ⟨_, (pss_cons (ps_set (i := 1) sc_refer_within.nd rfl (by first | exact Or.inl rfl | exact Or.inr rfl) (pe_lc (own := [("item", 2)]) rfl sc_refer_within.nd (kPiT (K := K) (pv 0)) (blkOk_by (N := ["tables", "names", "item", "_", "target"]) (sc := defScope s_refer_within) (own := [("item", 2)]) (by decide +kernel)) (fun _ _ _ _ _ => (pg_name (i := 2) sc_refer_within.nd rfl (by first | exact Or.inl rfl | exact Or.inr rfl))) (fun _ _ _ _ _ => pts_nil) (fun _ _ _ _ _ => (pe_ix (kIxT (K := K)) (pv 2) pe_int (fun _ _ => rfl)))))
      (pss_one (ps_ret (pe_callB (kAll (K := K) rfl) (by rfl) T.n_all (by decide +kernel) (pa_cons (pe_lc2 (own := [("item", 2), ("_", 3), ("target", 4)]) (vs1 := [3, 4]) rfl sc_refer_within.nd (kPiT (K := K) (pv 0)) (blkOk_by (N := ["tables", "names", "item", "_", "target"]) (sc := defScope s_refer_within) (own := [("item", 2), ("_", 3), ("target", 4)]) (by decide +kernel)) (by decide) (fun _ _ _ _ _ => (pg_name (i := 2) sc_refer_within.nd rfl (by first | exact Or.inl rfl | exact Or.inr rfl))) (fun _ _ _ _ _ => pts_nil) (fun _ _ _ _ _ => (kPiT (K := K) (pe_ix (kIxT (K := K)) (pv 2) pe_int (fun _ _ => rfl)))) (fun _ _ _ _ _ => (kPgT (K := K) (n := 2) rfl (pgs_cons (pg_name (i := 3) sc_refer_within.nd rfl (by first | exact Or.inl rfl | exact Or.inr rfl)) (pgs_cons (pg_name (i := 4) sc_refer_within.nd rfl (by first | exact Or.inl rfl | exact Or.inr rfl)) pgs_nil)))) (fun _ _ _ _ _ => pts_nil) (fun _ _ _ _ _ => (pe_cmpR (kIn (K := K)) (pv 4) (pv 1) rfl))) pa_nil))))), ?_⟩
    refine ⟨_, rfl, t, rfl, ⟨_, SqT.of ht⟩, fun N0 hN0 => lc_tup (K := K) (a := t) (xs := xs) (fun i Hj => i ≤ xs.length ∧ Hj N0 = some (.lst ((pl.map (·.1)).take i |>.map V.str)) ∧ Same H Hj) ?_ ?_ ?_ ?_⟩
    · exact ⟨Nat.zero_le _, upd_same, Same.upd (Same.refl H) hN0⟩
    · rintro i Hj _ ⟨_, _, e2⟩
      exact SqT.of (e2 t _ ht)
    · rintro i x Hj hxi ⟨hi, hl2, e2⟩
      have hil : i < xs.length := (List.getElem?_eq_some_iff.mp hxi).1
      obtain ⟨en, hen, hTd⟩ := hx.getM hxi
      obtain ⟨tn, tr, rs, rfl, htn, htr, hrs⟩ := entD_inv hTd
      have hrl : i < (pl.map (·.1)).length := by rw [List.length_map]; omega
      refine ⟨rfl, tYes_if ?_⟩
      refine ⟨_, rfl, tn, _, _, _, rfl, rfl, SqT.of (e2 tn _ htn), rfl, ?_⟩
      refine ⟨_, hl2, sizeLt (by rw [List.length_map, List.length_take]; omega), hil, ?_, Same.upd e2 hN0⟩
      rw [upd_same, List.take_succ_eq_append_getElem hrl, List.map_append]
      have er : (pl.map (·.1))[i] = en.1 := by
        rw [List.getElem_map]
        rw [(List.getElem?_eq_some_iff.mp hen).2]
      rw [er]
      rfl
    · rintro Hi ⟨_, hN, e⟩
      rw [List.take_of_length_le (by rw [List.length_map]; omega)] at hN
      have ht' := e t _ ht
      have inB : ∀ r : Ref, (if false = true then !inV (V.str r.2) ((pl.map (·.1)).map V.str) else inV (V.str r.2) ((pl.map (·.1)).map V.str)) = decide (r.2 ∈ pl.map (·.1)) := fun r => by
        rw [if_neg Bool.false_ne_true, inV_strs]
      have snoc : ∀ (i : Nat) (en : Ent), pl[i]? = some en → (pl.take (i + 1)).all (fun e => e.2.2.all fun r => decide (r.2 ∈ pl.map (·.1))) = ((pl.take i).all (fun e => e.2.2.all fun r => decide (r.2 ∈ pl.map (·.1))) && en.2.2.all fun r => decide (r.2 ∈ pl.map (·.1))) := fun i en h => by
        rw [List.take_succ_eq_append_getElem (List.getElem?_eq_some_iff.mp h).1, List.all_append, (List.getElem?_eq_some_iff.mp h).2]
        simp
      refine ⟨_, rfl, t, rfl, ⟨_, SqT.of ht'⟩, fun D hD => lc2_tup (K := K) (a := t) (xs := xs) (fun i Hj => i ≤ xs.length ∧ ∃ bs : List Bool, bs.length ≤ 3 * i ∧ Hj D = some (.lst (bs.map V.bl)) ∧ bs.all id = (pl.take i).all (fun e => e.2.2.all fun r => decide (r.2 ∈ pl.map (·.1))) ∧ Same Hi Hj) ?_ ?_ ?_ ?_⟩
      · exact ⟨Nat.zero_le _, [], Nat.zero_le _, upd_same, rfl, Same.upd (Same.refl Hi) hD⟩
      · rintro i Hj _ ⟨_, _, _, _, _, e2⟩
        exact SqT.of (e2 t _ ht')
      · rintro i x Hj hxi ⟨hi, bs, hn, hl, hb, e2⟩
        have hil : i < xs.length := (List.getElem?_eq_some_iff.mp hxi).1
        obtain ⟨en, hen, hTd⟩ := hx.getM hxi
        have hem := List.mem_of_getElem? hen
        have gr := g.refs en hem
        obtain ⟨tn, tr, rs, rfl, htn, htr, hrs⟩ := entD_inv hTd
        have hlr : rs.length = en.2.2.length := by rw [hrs.length, List.length_map]
        have g3 := gr.len
        have e3 := e.trans e2
        refine ⟨rfl, tYes_if ?_⟩
        refine ⟨_, rfl, tn, _, _, _, rfl, rfl, SqT.of (e3 tn _ htn), rfl, tr, rfl, ⟨_, SqT.of (e3 tr _ htr)⟩, ?_⟩
        refine in2_tup (K := K) (a := tr) (xs := rs) (fun j Hk => j ≤ rs.length ∧ Hk D = some (.lst ((bs ++ (en.2.2.take j).map fun r => decide (r.2 ∈ pl.map (·.1))).map V.bl)) ∧ Same Hi Hk) ?_ ?_ ?_ ?_
        · exact ⟨Nat.zero_le _, by rw [List.take_zero, List.map_nil, List.append_nil]; exact hl, e2⟩
        · rintro j Hk _ ⟨_, _, e4⟩
          exact SqT.of (e4 tr _ (e tr _ htr))
        · rintro j y Hk hyj ⟨hj, hl4, e4⟩
          have hjl : j < rs.length := (List.getElem?_eq_some_iff.mp hyj).1
          obtain ⟨r, hr, hTr⟩ := hrs.getM hyj
          obtain ⟨tt, rfl, htt⟩ := refD_inv hTr
          refine ⟨tt, _, rfl, SqT.of (e4 tt _ (e tt _ htt)), rfl, _, _, rfl, _, _, rfl, rfl, rfl, tYes_if ?_⟩
          refine ⟨_, rfl, _, rfl, N0, _, rfl, .inl (SqL.of (e4 N0 _ hN)), rfl, flat_strs _, ?_⟩
          refine ⟨_, hl4, sizeLt (by rw [List.length_map, List.length_append, List.length_map, List.length_take]; omega), hjl, ?_, Same.upd e4 hD⟩
          rw [upd_same, List.take_succ_eq_append_getElem (by omega), (List.getElem?_eq_some_iff.mp hr).2]
          simp only [List.map_append, ← List.append_assoc]
          exact congrArg (fun z => some (HO.lst (_ ++ [V.bl z]))) (inB r)
        · rintro Hk ⟨hj, hl4, e4⟩
          rw [hlr, List.take_length] at hl4
          refine ⟨hil, _, ?_, hl4, ?_, e4⟩
          · rw [List.length_append, List.length_map]
            omega
          · rw [List.all_append, hb, snoc i en hen, List.all_map]
            rfl
      · rintro Hj ⟨_, bs, hn, hl, hb, e2⟩
        refine ⟨D, bs, rfl, SqL.of hl, ?_⟩
        rw [hb, hlx, List.take_length]
        exact q _ (e.trans e2)
end My
namespace My
open PySem L2
def spSchX (CS CM : Addr) : Sp := fun vs H Q E => ∃ (p dx : Addr) (v : V) (d : PyData), vs = [.ref p, v] ∧ ThT H v d ∧ Sh d ∧ H p = some (.ins CS dx []) ∧
  (∀ pl, d = planD pl → Good pl → ∀ H' de, SchE CS H' p pl de → H de = none → Fr1 p H H' → Q .non H') ∧
  (tabsB d = false → ∀ H' x, Same H H' → H x = none → H' x = some (.xd [("part", .str "tables")]) → E (.ref CM) (some x) H') ∧
  (∀ pl, d = planD pl → Good0 pl → toB pl = false → ∀ H' x, Same H H' → H x = none → H' x = some (.xd [("part", .str "references")]) → E (.ref CM) (some x) H')
theorem body_Schema_init {P : Program} {w : World} {K : PySem.W.Frag} {mg : Str → Option Value} {base : Heap} {CS CP XCarryError XNoSchema XNoStep XNoText XNoKept XMissing XNoColumn XNoFlag XNoKey XNoRow XNoStops XNoStrokes XNoTable XNotClosed XNothingBegun XNotSafe XNotSame XRefused XTaken XT_MISSING_WORDS XT_COLUMN_STEPS : Addr} (T : Txt K mg CS CP XCarryError XNoSchema XNoStep XNoText XNoKept XMissing XNoColumn XNoFlag XNoKey XNoRow XNoStops XNoStrokes XNoTable XNotClosed XNothingBegun XNotSafe XNotSame XRefused XTaken XT_MISSING_WORDS XT_COLUMN_STEPS) : BodyX P w K mg base 5 ["self", "tables", "entry"] "Schema.__init__" s_Schema_init (spSchX CS XNoSchema) := by
  have c_NoSchema_init__ := ok_NoSchema_init (P := P) (w := w) (base := base) T
  have c_are_tables := ok_are_tables (P := P) (w := w) (base := base) T
  have c_refer_within := ok_refer_within (P := P) (w := w) (base := base) T
  intro f cdv A outer s H vs Q E hr h
  · obtain ⟨p, dx, v, d, rfl, hT, hs, hp, q0, qt, qr⟩ := h
    refine ⟨_, (pss_cons (ps_if (pt_not (pt_val (pe_callC c_are_tables (hr.mono (by decide)) (pa_cons (pv 1) pa_nil)))) (pss_one (ps_raiseE rfl c_NoSchema_init__ (hr.mono (by decide)) (takes_of rfl rfl rfl rfl) (pa_cons pe_str pa_nil))) pss_nil)
      (pss_cons (ps_if (pt_not (pt_val (pe_callC c_refer_within (hr.mono (by decide)) (pa_cons (pv 1) pa_nil)))) (pss_one (ps_raiseE rfl c_NoSchema_init__ (hr.mono (by decide)) (takes_of rfl rfl rfl rfl) (pa_cons pe_str pa_nil))) pss_nil)
      (pss_cons (ps_fld (pv 0) (pv 1) rfl)
      (pss_one (ps_fld (pv 0) (pe_dc (own := [("entry", 2)]) rfl sc_Schema_init.nd (kPiT (K := K) (pv 1)) (blkOk_by (N := ["self", "tables", "entry"]) (sc := defScope s_Schema_init) (own := [("entry", 2)]) (by decide +kernel)) (fun _ _ _ _ _ => (pg_name (i := 2) sc_Schema_init.nd rfl (by first | exact Or.inl rfl | exact Or.inr rfl))) (fun _ _ _ _ _ => pts_nil) (fun _ _ _ _ _ => (pe_ix (kIxT (K := K)) (pv 2) pe_int (fun _ _ => rfl))) (fun _ _ _ _ _ => (pv 2))) rfl))))), ?_⟩
    refine ⟨_, rfl, v, d, rfl, hT, hs, fun H1 e1 => ⟨_, rfl, ite2 (fun c => ?_) (fun c => ?_)⟩⟩
    · exact errMk rfl (by decide) fun y hy => qt (by simpa using c) _ y (Same.upd e1 (e1.free hy)) (e1.free hy) upd_same
    obtain ⟨pl, rfl, g0⟩ := tabsB_inv (d := d) (by simpa using c)
    have hv := Th.plan (hT.tup)
    refine ⟨_, rfl, v, pl, rfl, hv.kt_same e1, g0, fun H2 e2 => ⟨_, rfl, ite2 (fun c => ?_) (fun c => ?_)⟩⟩
    · have e3 := e1.trans e2
      exact errMk rfl (by decide) fun y hy => qr pl rfl g0 (by simpa using c) _ y (Same.upd e3 (e3.free hy)) (e3.free hy) upd_same
    have g : Good pl := g0.good (by simpa using c)
    have q := q0 pl rfl g
    have e12 := e1.trans e2
    have hp2 := e12 p _ hp
    have hv2 := hv.kt_same e12
    refine ⟨_, rfl, _, rfl, p, CS, dx, [], rfl, hp2, T.c_Schema.cl, T.a_Schema_tables, (by show 0 < 1000; decide), ?_⟩
    have kt3 : KT H2 (upd H2 p (.ins CS dx (putF "_tables" v []))) := fun c xs hc => by
      rw [upd_ne (ne_of hc hp2 (by intro z; cases z))]
      exact hc
    obtain ⟨t, xs, rfl, ht, hx⟩ := hv2.tup_inv
    have hlx : xs.length = pl.length := by rw [hx.length, List.length_map]
    have hi5 := g.hi
    have ht3 := kt3 t _ ht
    generalize hH3 : upd H2 p (.ins CS dx (putF "_tables" (V.ref t) [])) = H3 at *
    have hp3 : H3 p = some (.ins CS dx (putF "_tables" (V.ref t) [])) := by rw [← hH3, upd_same]
    have hx3 := hx.mono kt3
    refine ⟨_, rfl, t, rfl, ⟨_, SqT.of ht3⟩, fun D hD => dc_tup (K := K) (a := t) (xs := xs) (fun i Hi => i ≤ xs.length ∧ ∃ kvs, Hi D = some (.dK kvs) ∧ EntsAt Hi kvs (pl.take i) ∧ Same H3 Hi) ?_ ?_ ?_ ?_⟩
    · exact ⟨Nat.zero_le _, [], upd_same, ⟨rfl, .nil⟩, Same.upd (Same.refl H3) hD⟩
    · rintro i Hi _ ⟨_, _, _, _, e⟩
      exact SqT.of (e t _ ht3)
    · rintro i x Hi hxi ⟨hi, kvs, hl, he, e⟩
      have hil : i < xs.length := (List.getElem?_eq_some_iff.mp hxi).1
      have hip : i < pl.length := by omega
      obtain ⟨en, hen, hTd⟩ := hx3.getM hxi
      have hen2 : pl[i] = en := (List.getElem?_eq_some_iff.mp hen).2
      obtain ⟨tn, tr, rs, rfl, htn, htr, hrs⟩ := entD_inv hTd
      refine ⟨rfl, tYes_if ?_⟩
      refine ⟨_, rfl, tn, _, _, _, rfl, rfl, SqT.of (e tn _ htn), rfl, _, rfl, kvs, Sum.inr en.1, rfl, hl, ?_, hil, _, upd_same, ?_, Same.upd e hD⟩
      · have hkl : kvs.length = (pl.take i).length := by
          have := congrArg List.length he.keys
          rwa [List.length_map, List.length_map] at this
        rw [List.length_take] at hkl
        exact sizeLt (by omega)
      · have hno : valV kvs (Sum.inr en.1 : Key) = none := by
          refine valV_no he.keys fun hm => ?_
          have nd := g.nd
          obtain ⟨e2, he2, ee⟩ := List.mem_map.mp hm
          obtain ⟨j, hj, ej⟩ := List.getElem_of_mem he2
          rw [List.getElem_take] at ej
          have hji : j < i := by
            rw [List.length_take] at hj
            omega
          have hji2 : j < pl.length := by omega
          have a1 : (pl.map (·.1))[j]'(by rw [List.length_map]; omega) = (pl.map (·.1))[i]'(by rw [List.length_map]; omega) := by
            rw [List.getElem_map, List.getElem_map, hen2, ej, ee]
          have := (List.getElem_inj nd).mp a1
          omega
        rw [putK_new _ hno]
        have ktD : KT Hi (upd Hi D (.dK (kvs ++ [(Sum.inr en.1, V.ref tn)]))) := fun c ys hc => by
          rw [upd_ne (ne_of hc hl (by intro z; cases z))]
          exact hc
        refine ⟨?_, ?_⟩
        · rw [List.take_succ_eq_append_getElem hip, List.map_append, List.map_append, he.keys, hen2]
          rfl
        · rw [List.take_succ_eq_append_getElem hip, List.map_append, List.map_append, hen2]
          exact (he.vals.mono ktD).append (.cons ((hTd.kt_same e).mono ktD) .nil)
    · rintro Hi ⟨_, kvs, hl, he, e⟩
      rw [List.take_of_length_le (by omega)] at he
      have hpi := e p _ hp3
      refine ⟨_, rfl, p, CS, dx, _, rfl, hpi, T.c_Schema.cl, T.a_Schema_entries, (by show 1 < 1000; decide), ?_⟩
      have ktp : KT Hi (upd Hi p (.ins CS dx (putF "_entries" (V.ref D) (putF "_tables" (V.ref t) [])))) := fun c ys hc => by
        rw [upd_ne (ne_of hc hpi (by intro z; cases z))]
        exact hc
      have nDp : D ≠ p := ne_of hl hpi (by intro z; cases z)
      refine q _ D ⟨g, dx, .ref t, kvs, upd_same, ((Td.tup ht3 hx3).kt_same e).mono ktp, by rw [upd_ne nDp]; exact hl, he.keys, he.vals.mono ktp⟩ ?_ ?_
      · cases c : H D with
        | none => rfl
        | some o =>
          have c2 := e12 D o c
          have c3 : H3 D = some o := by rw [← hH3, upd_ne nDp]; exact c2
          rw [hD] at c3
          cases c3
      intro c o nc hc
      rw [upd_ne nc]
      refine e c o ?_
      rw [← hH3, upd_ne nc]
      exact e12 c o hc
theorem len_Schema_init {CS CM : Addr} : ∀ vs H Q E, spSchX CS CM vs H Q E → vs.length = ["self", "tables"].length := by
  rintro vs H Q E ⟨p, dx, v, d, rfl, _⟩
  rfl
theorem ok_Schema_init {P : Program} {w : World} {K : PySem.W.Frag} {mg : Str → Option Value} {base : Heap} {CS CP XCarryError XNoSchema XNoStep XNoText XNoKept XMissing XNoColumn XNoFlag XNoKey XNoRow XNoStops XNoStrokes XNoTable XNotClosed XNothingBegun XNotSafe XNotSame XRefused XTaken XT_MISSING_WORDS XT_COLUMN_STEPS : Addr} (T : Txt K mg CS CP XCarryError XNoSchema XNoStep XNoText XNoKept XMissing XNoColumn XNoFlag XNoKey XNoRow XNoStops XNoStrokes XNoTable XNotClosed XNothingBegun XNotSafe XNotSame XRefused XTaken XT_MISSING_WORDS XT_COLUMN_STEPS) : MakeX P w K mg base 6 CS "Schema" (spSchX CS XNoSchema) :=
  T.d_Schema_init.makeX T.c_Schema sc_Schema_init len_Schema_init (body_Schema_init T)
end My
namespace My
open PySem L2
def spSTables (CS : Addr) : Sp := fun vs H Q _ => ∃ (p : Addr) (pl : Plan), vs = [.ref p] ∧ SchAt CS H p pl ∧ ∀ v, Td H v (planD pl) → Q v H
theorem ok_Schema_tables {P : Program} {w : World} {K : PySem.W.Frag} {mg : Str → Option Value} {base : Heap} {CS CP XCarryError XNoSchema XNoStep XNoText XNoKept XMissing XNoColumn XNoFlag XNoKey XNoRow XNoStops XNoStrokes XNoTable XNotClosed XNothingBegun XNotSafe XNotSame XRefused XTaken XT_MISSING_WORDS XT_COLUMN_STEPS : Addr} (T : Txt K mg CS CP XCarryError XNoSchema XNoStep XNoText XNoKept XMissing XNoColumn XNoFlag XNoKey XNoRow XNoStops XNoStrokes XNoTable XNotClosed XNothingBegun XNotSafe XNotSame XRefused XTaken XT_MISSING_WORDS XT_COLUMN_STEPS) : MethOk P w K mg base 1 CS "tables" (spSTables CS) := by
  refine T.d_Schema_tables.ok T.c_Schema.cl sc_Schema_tables (fun vs H Q E h => ?_) (fun f cdv A outer s H vs Q E hr h => ?_)
  · obtain ⟨p, pl, rfl, _⟩ := h
    rfl
  · obtain ⟨p, pl, rfl, S, q⟩ := h
    obtain ⟨dx, tv, de, kvs, h1, h2, h3, h4⟩ := S.ex
    refine ⟨_, (pss_one (ps_ret (kFld (K := K) (pv 0) rfl))), ?_⟩
    exact ⟨_, rfl, p, CS, dx, _, _, rfl, h1, T.c_Schema.cl, T.a_Schema_tables, sFlds_t _ _, q _ h2⟩
end My
namespace My
open PySem L2
def colPairs (pl : Plan) : List Ref := pl.flatMap fun e => e.2.2.map fun r => (e.1, r.1)
theorem colPairs_snoc (pl : Plan) (e : Ent) : colPairs (pl ++ [e]) = colPairs pl ++ e.2.2.map fun r => (e.1, r.1) := by
  unfold colPairs
  rw [List.flatMap_append]
  simp
def spAllCols (CS : Addr) : Sp := fun vs H Q _ => ∃ (p : Addr) (pl : Plan), vs = [.ref p] ∧ SchAt CS H p pl ∧ ∀ D H' acc, H D = none → H' D = some (.lst acc) → TdAll H' acc ((colPairs pl).map refD) → acc.length ≤ 15 → Same H H' → Q (.ref D) H'
theorem ok_Schema_all_columns {P : Program} {w : World} {K : PySem.W.Frag} {mg : Str → Option Value} {base : Heap} {CS CP XCarryError XNoSchema XNoStep XNoText XNoKept XMissing XNoColumn XNoFlag XNoKey XNoRow XNoStops XNoStrokes XNoTable XNotClosed XNothingBegun XNotSafe XNotSame XRefused XTaken XT_MISSING_WORDS XT_COLUMN_STEPS : Addr} (T : Txt K mg CS CP XCarryError XNoSchema XNoStep XNoText XNoKept XMissing XNoColumn XNoFlag XNoKey XNoRow XNoStops XNoStrokes XNoTable XNotClosed XNothingBegun XNotSafe XNotSame XRefused XTaken XT_MISSING_WORDS XT_COLUMN_STEPS) : MethOk P w K mg base 1 CS "all_columns" (spAllCols CS) := by
  refine T.d_Schema_all_columns.ok T.c_Schema.cl sc_Schema_all_columns (fun vs H Q E h => ?_) (fun f cdv A outer s H vs Q E hr h => ?_)
  · obtain ⟨p, pl, rfl, _⟩ := h
    rfl
  · obtain ⟨p, pl, rfl, S, q⟩ := h
    obtain ⟨dx, tv, de, kvs, h1, h2, h3, h4⟩ := S.ex
    have hi5 := S.good.hi
    refine ⟨_, (pss_one (ps_ret (pe_lc2 (own := [("entry", 1), ("column", 2), ("_", 3)]) (vs1 := [2, 3]) rfl sc_Schema_all_columns.nd (kPiT (K := K) (kFld (K := K) (pv 0) rfl)) (blkOk_by (N := ["self", "entry", "column", "_"]) (sc := defScope s_Schema_all_columns) (own := [("entry", 1), ("column", 2), ("_", 3)]) (by decide +kernel)) (by decide) (fun _ _ _ _ _ => (pg_name (i := 1) sc_Schema_all_columns.nd rfl (by first | exact Or.inl rfl | exact Or.inr rfl))) (fun _ _ _ _ _ => pts_nil) (fun _ _ _ _ _ => (kPiT (K := K) (pe_ix (kIxT (K := K)) (pv 1) pe_int (fun _ _ => rfl)))) (fun _ _ _ _ _ => (kPgT (K := K) (n := 2) rfl (pgs_cons (pg_name (i := 2) sc_Schema_all_columns.nd rfl (by first | exact Or.inl rfl | exact Or.inr rfl)) (pgs_cons (pg_name (i := 3) sc_Schema_all_columns.nd rfl (by first | exact Or.inl rfl | exact Or.inr rfl)) pgs_nil)))) (fun _ _ _ _ _ => pts_nil) (fun _ _ _ _ _ => (pe_tup (pa_cons (pe_ix (kIxT (K := K)) (pv 1) pe_int (fun _ _ => rfl)) (pa_cons (pv 2) pa_nil))))))), ?_⟩
    obtain ⟨t, xs, rfl, ht, hx⟩ := h2.tup_inv
    have hlx : xs.length = pl.length := by rw [hx.length, List.length_map]
    refine ⟨_, rfl, p, CS, dx, _, _, rfl, h1, T.c_Schema.cl, T.a_Schema_tables, sFlds_t _ _, t, rfl, ⟨_, SqT.of ht⟩, fun D hD => lc2_tup (K := K) (a := t) (xs := xs) (fun i Hj => i ≤ xs.length ∧ ∃ acc, acc.length ≤ 3 * i ∧ Hj D = some (HO.lst acc) ∧ TdAll Hj acc ((colPairs (pl.take i)).map refD) ∧ Same H Hj) ?_ ?_ ?_ ?_⟩
    · exact ⟨Nat.zero_le _, [], Nat.zero_le _, upd_same, .nil, Same.upd (Same.refl H) hD⟩
    · rintro i Hj _ ⟨_, _, _, _, _, e2⟩
      exact SqT.of (e2 t _ ht)
    · rintro i x Hj hxi ⟨hi, acc, hal, hl, hT, e2⟩
      have hil : i < xs.length := (List.getElem?_eq_some_iff.mp hxi).1
      have hip : i < pl.length := by omega
      obtain ⟨en, hen, hTd⟩ := hx.getM hxi
      have hen2 : pl[i] = en := (List.getElem?_eq_some_iff.mp hen).2
      have gr := S.good.refs en (List.mem_of_getElem? hen)
      have g3 := gr.len
      obtain ⟨tn, tr, rs, rfl, htn, htr, hrs⟩ := entD_inv hTd
      have hlr : rs.length = en.2.2.length := by rw [hrs.length, List.length_map]
      refine ⟨rfl, tYes_if ?_⟩
      refine ⟨_, rfl, tn, _, _, _, rfl, rfl, SqT.of (e2 tn _ htn), rfl, tr, rfl, ⟨_, SqT.of (e2 tr _ htr)⟩, ?_⟩
      refine in2_tup (K := K) (a := tr) (xs := rs) (fun j Hk => j ≤ rs.length ∧ ∃ ac2, ac2.length = acc.length + j ∧ Hk D = some (.lst ac2) ∧ TdAll Hk ac2 ((colPairs (pl.take i) ++ (en.2.2.take j).map fun r => (en.1, r.1)).map refD) ∧ Same H Hk) ?_ ?_ ?_ ?_
      · exact ⟨Nat.zero_le _, acc, rfl, hl, by simpa using hT, e2⟩
      · rintro j Hk _ ⟨_, _, _, _, _, e4⟩
        exact SqT.of (e4 tr _ htr)
      · rintro j y Hk hyj ⟨hj, ac2, hal2, hl2, hT2, e4⟩
        have hjl : j < rs.length := (List.getElem?_eq_some_iff.mp hyj).1
        have hje : j < en.2.2.length := by omega
        obtain ⟨r, hr0, hTr⟩ := hrs.getM hyj
        have hr2 : en.2.2[j] = r := (List.getElem?_eq_some_iff.mp hr0).2
        obtain ⟨tt, rfl, htt⟩ := refD_inv hTr
        refine ⟨tt, _, rfl, SqT.of (e4 tt _ htt), rfl, _, _, rfl, _, _, rfl, rfl, rfl, tYes_if ?_⟩
        refine ⟨_, rfl, tn, _, _, _, rfl, rfl, SqT.of (e4 tn _ htn), rfl, _, rfl, sizeL (by show 2 ≤ 100000; decide), fun tp htp => ?_⟩
        have nDt : D ≠ tp := ne_of_none hl2 htp
        have hD3 : upd Hk tp (.tup [V.str en.1, V.str r.1]) D = some (.lst ac2) := by rw [upd_ne nDt]; exact hl2
        have kt : KT Hk (upd (upd Hk tp (.tup [V.str en.1, V.str r.1])) D (.lst (ac2 ++ [.ref tp]))) := (KT.of (Same.upd (Same.refl Hk) htp)).updL hD3
        refine ⟨ac2, hD3, sizeLt (by omega), hjl, ac2 ++ [.ref tp], by simp [hal2]; omega, upd_same, ?_, fun c o hc => ?_⟩
        · have em : (en.2.2.take (j + 1)).map (fun r : Ref => ((en.1, r.1) : Ref)) = (en.2.2.take j).map (fun r : Ref => ((en.1, r.1) : Ref)) ++ [(en.1, r.1)] := by
            rw [List.take_succ_eq_append_getElem hje, List.map_append, hr2]
            rfl
          rw [em, ← List.append_assoc, List.map_append]
          refine (hT2.mono kt).append (.cons (.tup (xs := [V.str en.1, V.str r.1]) ?_ (.cons (.str _) (.cons (.str _) .nil))) .nil)
          rw [upd_ne nDt.symm, upd_same]
        · rw [upd_ne (ne_of_none hc hD), upd_ne (ne_of_none (e4 c o hc) htp)]
          exact e4 c o hc
      · rintro Hk ⟨hj, ac2, hal2, hl2, hT2, e4⟩
        refine ⟨hil, ac2, by omega, hl2, ?_, e4⟩
        rw [List.take_succ_eq_append_getElem hip, colPairs_snoc, hen2]
        rw [List.take_of_length_le (show en.2.2.length ≤ rs.length by omega)] at hT2
        exact hT2
    · rintro Hj ⟨_, acc, hal, hl, hT, e2⟩
      rw [List.take_of_length_le (by omega)] at hT
      exact q D Hj acc hD hl hT (by omega) e2
end My
namespace My
open PySem L2
def spIsLoad (CS : Addr) : Sp := fun vs H Q _ => ∃ (p : Addr) (pl : Plan) (v : V) (w t m f : PyData), vs = [.ref p, v] ∧ SchAt CS H p pl ∧ Th H v (.tuple [w, t, m, f]) ∧ ∀ H', Same H H' → Q (.bl (loadB pl w t m f)) H'
theorem askOne {K : PySem.W.Frag} {H : Hp} {v : V} {d : PyData} {a : Addr} {ws : List Str} {Q : VK} {E : XK} (hT : Th H v d) (ha : SqT K H a (ws.map V.str) ∨ SqL K H a (ws.map V.str)) (q : Q (.bl (oneOfB d ws)) H) : spOneOf K [v, .ref a] H Q E := by
  by_cases h : ∃ x, d = .str x
  · obtain ⟨x, rfl⟩ := h
    obtain rfl := hT.str_inv
    refine ⟨_, _, rfl, .inr ⟨x, rfl, .inr ⟨a, _, rfl, ha.symm, flat_strs _, ?_⟩⟩⟩
    rw [inV_strs]
    exact q
  · have n : ∀ x, d ≠ .str x := fun x e => h ⟨x, e⟩
    obtain ⟨t, ty, ko⟩ := hT.notStr (K := K) n
    rw [oneOfB_no n] at q
    exact ⟨_, _, rfl, .inl ⟨t, ty, ko, q⟩⟩
theorem ok_is_load_scripts {P : Program} {w : World} {K : PySem.W.Frag} {mg : Str → Option Value} {base : Heap} {CS CP XCarryError XNoSchema XNoStep XNoText XNoKept XMissing XNoColumn XNoFlag XNoKey XNoRow XNoStops XNoStrokes XNoTable XNotClosed XNothingBegun XNotSafe XNotSame XRefused XTaken XT_MISSING_WORDS XT_COLUMN_STEPS : Addr} (T : Txt K mg CS CP XCarryError XNoSchema XNoStep XNoText XNoKept XMissing XNoColumn XNoFlag XNoKey XNoRow XNoStops XNoStrokes XNoTable XNotClosed XNothingBegun XNotSafe XNotSame XRefused XTaken XT_MISSING_WORDS XT_COLUMN_STEPS) : CallOk P w K mg base 2 "is_load_scripts" (spIsLoad CS) := by
  have c_Schema_tables := ok_Schema_tables (P := P) (w := w) (base := base) T
  have c_is_flag := ok_is_flag (P := P) (w := w) (base := base) T
  have c_is_one_of := ok_is_one_of (P := P) (w := w) (base := base) T
  refine T.d_is_load_scripts.ok sc_is_load_scripts (fun vs H Q E h => ?_) (fun f cdv A outer s H vs Q E hr h => ?_)
  · obtain ⟨p, pl, v, w, t, m, f, rfl, _⟩ := h
    rfl
  · obtain ⟨p, pl, v, w, n, m, f, rfl, S, hT, q⟩ := h
    obtain ⟨t, xs, rfl, ht, hx⟩ := hT.tup_inv
    obtain ⟨v0, v1, v2, v3, rfl, h0, h1, h2, h3⟩ := hx.four
    refine ⟨_, (pss_cons (ps_asg (pv 1) (kPgT (K := K) (n := 4) rfl (pgs_cons (pg_name (i := 2) sc_is_load_scripts.nd rfl (by first | exact Or.inl rfl | exact Or.inr rfl)) (pgs_cons (pg_name (i := 3) sc_is_load_scripts.nd rfl (by first | exact Or.inl rfl | exact Or.inr rfl)) (pgs_cons (pg_name (i := 4) sc_is_load_scripts.nd rfl (by first | exact Or.inl rfl | exact Or.inr rfl)) (pgs_cons (pg_name (i := 5) sc_is_load_scripts.nd rfl (by first | exact Or.inl rfl | exact Or.inr rfl)) pgs_nil))))))
      (pss_cons (ps_if (PW.pt (pw_or (pt_not (pt_val (pe_callC c_is_one_of (hr.mono (by decide)) (pa_cons (pv 2) (pa_cons (pe_tup (pa_cons pe_str pa_nil)) pa_nil))))) (pw_or (pt_not (pt_val (pe_callC c_is_one_of (hr.mono (by decide)) (pa_cons (pv 4) (pa_cons (pe_globV (v := .ref XT_MISSING_WORDS) ⟨_, T.t_MISSING_WORDS, rfl⟩) pa_nil))))) (pw_or1 (pt_not (pt_val (pe_callC c_is_flag (hr.mono (by decide)) (pa_cons (pv 5) pa_nil)))))))) (pss_one (ps_ret pe_bl)) pss_nil)
      (pss_one (ps_ret (pe_callC c_is_one_of (hr.mono (by decide)) (pa_cons (pv 3) (pa_cons (pe_lc (own := [("entry", 6)]) rfl sc_is_load_scripts.nd (kPiT (K := K) (pe_methC0 (pv 0) c_Schema_tables (hr.mono (by decide)))) (blkOk_by (N := ["schema", "value", "word", "table", "missing", "matching", "entry"]) (sc := defScope s_is_load_scripts) (own := [("entry", 6)]) (by decide +kernel)) (fun _ _ _ _ _ => (pg_name (i := 6) sc_is_load_scripts.nd rfl (by first | exact Or.inl rfl | exact Or.inr rfl))) (fun _ _ _ _ _ => pts_nil) (fun _ _ _ _ _ => (pe_ix (kIxT (K := K)) (pv 6) pe_int (fun _ _ => rfl)))) pa_nil))))))), ?_⟩
    refine ⟨_, rfl, t, _, rfl, SqT.of ht, rfl, _, _, rfl, _, _, rfl, _, _, rfl, _, _, rfl, rfl, ?_⟩
    refine ⟨_, rfl, sizeL (by show 1 ≤ 100000; decide), fun t1 ht1 => ?_⟩
    have r1 := Same.upd (o := .tup [.str "load"]) (Same.refl H) ht1
    have ht2 : upd H t1 (.tup [.str "load"]) t1 = some (.tup [.str "load"]) := upd_same
    generalize upd H t1 (.tup [.str "load"]) = G at *
    have q1 : Q (.bl (loadB pl w n m f)) G := q _ r1
    have e1 := h0.same r1
    have e2 := h1.same r1
    have e3 := h2.same r1
    have e4 := h3.same r1
    have qf : ∀ b, b = false → loadB pl w n m f = b → Q (.bl false) G := fun b h1 h2 => by
      rw [h2, h1] at q1
      exact q1
    try unfold tCons
    try unfold tC
    try unfold tNil
    show spOneOf K [v0, .ref t1] G _ _
    refine askOne (ws := ["load"]) e1 (.inl (SqT.of ht2)) ?_
    refine ⟨_, rfl, ite2 (fun c => iteT ?_) (fun c => ?_)⟩
    · refine qf _ rfl ?_
      unfold loadB
      rw [show oneOfB w ["load"] = false by simpa using c]
      rfl
    have c1 : oneOfB w ["load"] = true := by simpa using c
    refine ⟨_, rfl, ?_⟩
    try unfold tCons
    try unfold tC
    try unfold tNil
    show spOneOf K [v2, .ref XT_MISSING_WORDS] G _ _
    refine askOne (ws := ["raw", "blank", "refuse"]) e3 (.inl (T.w_MISSING_WORDS G)) ?_
    refine ⟨_, rfl, ite2 (fun c => iteT ?_) (fun c => ?_)⟩
    · refine qf _ rfl ?_
      unfold loadB
      rw [show oneOfB m ["raw", "blank", "refuse"] = false by simpa using c, c1]
      rfl
    have c2 : oneOfB m ["raw", "blank", "refuse"] = true := by simpa using c
    refine ⟨_, rfl, _, f, rfl, e4, ?_⟩
    refine ⟨_, rfl, ite2 (fun c => ?_) (fun c => ?_)⟩
    · refine qf _ rfl ?_
      unfold loadB
      rw [show isBoolD f = false by simpa using c, c1, c2]
      rfl
    have c3 : isBoolD f = true := by simpa using c
    have ql : loadB pl w n m f = oneOfB n (pl.map (·.1)) := by
      unfold loadB
      rw [c1, c2, c3]
      rfl
    have SG := S.same r1
    obtain ⟨dx, tv, de, kvs, h1, h2, h3, h4⟩ := SG.ex
    obtain ⟨tt, txs, rfl, htt, hxx⟩ := h2.tup_inv
    have hlx : txs.length = pl.length := by rw [hxx.length, List.length_map]
    have hhi := S.good.hi
    refine ⟨_, rfl, _, rfl, p, dx, _, rfl, h1, sFlds_no _ _ (by decide +kernel) (by decide +kernel), p, pl, rfl, SG, fun v hv => ?_⟩
    obtain ⟨tt, txs, rfl, htt, hxx⟩ := hv.tup_inv
    have hlx : txs.length = pl.length := by rw [hxx.length, List.length_map]
    refine ⟨tt, rfl, ⟨_, SqT.of htt⟩, fun D hD => lc_tup (K := K) (a := tt) (xs := txs) (fun i Hi => i ≤ txs.length ∧ Hi D = some (.lst ((pl.take i).map fun e => V.str e.1)) ∧ Same G Hi) ?_ ?_ ?_ ?_⟩
    · exact ⟨Nat.zero_le _, upd_same, Same.upd (Same.refl _) hD⟩
    · rintro i Hi _ ⟨_, _, e⟩
      exact SqT.of (e _ _ htt)
    · rintro i x Hi hxi ⟨hi, hDi, e⟩
      have hil : i < txs.length := (List.getElem?_eq_some_iff.mp hxi).1
      obtain ⟨en, hen, hTd⟩ := hxx.getM hxi
      obtain ⟨tn, tr, rs, rfl, htn, htr, hrs⟩ := entD_inv hTd
      refine ⟨rfl, tYes_if ?_⟩
      refine ⟨_, rfl, tn, _, _, _, rfl, rfl, SqT.of (e _ _ htn), rfl, _, hDi, sizeLt (by rw [List.length_map, List.length_take]; omega), hil, ?_, Same.upd e hD⟩
      have hip : i < pl.length := by omega
      rw [upd_same, List.take_succ_eq_append_getElem hip, List.map_append, (List.getElem?_eq_some_iff.mp hen).2]
      rfl
    · rintro Hi ⟨hi, hDi, e⟩
      rw [hlx, List.take_length] at hDi
      have em : (pl.map fun e => V.str e.1) = (pl.map (·.1)).map V.str := by rw [List.map_map]; rfl
      rw [em] at hDi
      try unfold tCons
      try unfold tC
      try unfold tNil
      show spOneOf K [v1, .ref D] Hi _ _
      refine askOne (ws := pl.map (·.1)) (e2.same e) (.inr (SqL.of hDi)) ?_
      rw [← ql]
      exact q _ (r1.trans e)
end My
namespace My
open PySem L2
def spIsCol (CS : Addr) : Sp := fun vs H Q _ => ∃ (p : Addr) (pl : Plan) (v : V) (w n c : PyData), vs = [.ref p, v] ∧ SchAt CS H p pl ∧ Th H v (.tuple [w, n, c]) ∧ (PyData.tuple [w, n, c]).canLay0 = true ∧ ∀ H', Same H H' → Q (.bl (colB pl w n c)) H'
theorem colPairs_nm {pl : Plan} (g : Good pl) : ∀ r ∈ colPairs pl, Nm r.1 ∧ Nm r.2 := by
  intro r hr
  obtain ⟨e, he, h⟩ := List.mem_flatMap.mp hr
  obtain ⟨x, hx, rfl⟩ := List.mem_map.mp h
  exact ⟨g.nm e he, (g.refs e he).nm x hx⟩
theorem ok_is_column_step_scripts {P : Program} {w : World} {K : PySem.W.Frag} {mg : Str → Option Value} {base : Heap} {CS CP XCarryError XNoSchema XNoStep XNoText XNoKept XMissing XNoColumn XNoFlag XNoKey XNoRow XNoStops XNoStrokes XNoTable XNotClosed XNothingBegun XNotSafe XNotSame XRefused XTaken XT_MISSING_WORDS XT_COLUMN_STEPS : Addr} (T : Txt K mg CS CP XCarryError XNoSchema XNoStep XNoText XNoKept XMissing XNoColumn XNoFlag XNoKey XNoRow XNoStops XNoStrokes XNoTable XNotClosed XNothingBegun XNotSafe XNotSame XRefused XTaken XT_MISSING_WORDS XT_COLUMN_STEPS) : CallOk P w K mg base 2 "is_column_step_scripts" (spIsCol CS) := by
  have c_Schema_all_columns := ok_Schema_all_columns (P := P) (w := w) (base := base) T
  have c_is_one_of := ok_is_one_of (P := P) (w := w) (base := base) T
  refine T.d_is_column_step_scripts.ok sc_is_column_step_scripts (fun vs H Q E h => ?_) (fun f cdv A outer s H vs Q E hr h => ?_)
  · obtain ⟨p, pl, v, w, n, c, rfl, _⟩ := h
    rfl
  · obtain ⟨p, pl, v, w, n, c, rfl, S, hT, hcan, q⟩ := h
    obtain ⟨t, xs, rfl, ht, hx⟩ := hT.tup_inv
    obtain ⟨v0, v1, v2, rfl, h0, h1, h2⟩ := hx.three
    have q0 : ∀ b, colB pl w n c = b → Q (.bl b) H := fun b e => e ▸ q _ (Same.refl H)
    refine ⟨_, (pss_cons (ps_asg (pv 1) (kPgT (K := K) (n := 3) rfl (pgs_cons (pg_name (i := 2) sc_is_column_step_scripts.nd rfl (by first | exact Or.inl rfl | exact Or.inr rfl)) (pgs_cons (pg_name (i := 3) sc_is_column_step_scripts.nd rfl (by first | exact Or.inl rfl | exact Or.inr rfl)) (pgs_cons (pg_name (i := 4) sc_is_column_step_scripts.nd rfl (by first | exact Or.inl rfl | exact Or.inr rfl)) pgs_nil)))))
      (pss_cons (ps_if (PW.pt (pw_or (pt_not (pt_val (pe_callC c_is_one_of (hr.mono (by decide)) (pa_cons (pv 2) (pa_cons (pe_globV (v := .ref XT_COLUMN_STEPS) ⟨_, T.t_COLUMN_STEPS, rfl⟩) pa_nil))))) (pw_or (pt_not (pt_val (pe_callB (kIsi (K := K)) (by rfl) T.n_isinstance (by decide +kernel) (pa_cons (pv 3) (pa_cons (pe_bltn (v := .ty "str") (by rfl) T.n_str (by decide +kernel) rfl) pa_nil))))) (pw_or1 (pt_not (pt_val (pe_callB (kIsi (K := K)) (by rfl) T.n_isinstance (by decide +kernel) (pa_cons (pv 4) (pa_cons (pe_bltn (v := .ty "str") (by rfl) T.n_str (by decide +kernel) rfl) pa_nil))))))))) (pss_one (ps_ret pe_bl)) pss_nil)
      (pss_one (ps_ret (pe_cmpR (kInD (K := K) (u65 hr)) (pe_tup (pa_cons (pv 3) (pa_cons (pv 4) pa_nil))) (pe_methC0 (pv 0) c_Schema_all_columns (hr.mono (by decide))) rfl))))), ?_⟩
    refine ⟨_, rfl, t, _, rfl, SqT.of ht, rfl, _, _, rfl, _, _, rfl, _, _, rfl, rfl, ?_⟩
    refine ⟨_, rfl, ?_⟩
    try unfold tCons
    try unfold tC
    try unfold tNil
    show spOneOf K [v0, .ref XT_COLUMN_STEPS] H _ _
    refine askOne (ws := ["patch", "fill", "sweep"]) h0 (.inl (T.w_COLUMN_STEPS H)) ?_
    refine ⟨_, rfl, ite2 (fun k => iteT ?_) (fun k => ?_)⟩
    · refine q0 _ ?_
      unfold colB
      rw [show oneOfB w ["patch", "fill", "sweep"] = false by simpa using k]
      rfl
    have k1 : oneOfB w ["patch", "fill", "sweep"] = true := by simpa using k
    have cl : colB pl w n c = pairB n c (prs pl) := by
      unfold colB
      rw [k1]
      rfl
    rw [cl] at q0
    obtain ⟨ty1, hy1, ko1⟩ := h1.askStr (K := K)
    refine ⟨_, rfl, _, _, _, _, _, rfl, ClsV.ty "str", hy1, ko1, _, rfl, ite2 (fun k => iteT ?_) (fun k => ?_)⟩
    · refine q0 _ ?_
      unfold pairB
      have z : isStrD n = false := by simpa using k
      cases n <;> first | rfl | cases z
    obtain ⟨x, rfl⟩ := isStrD_inv (d := n) (by simpa using k)
    obtain rfl := h1.str_inv
    obtain ⟨ty2, hy2, ko2⟩ := h2.askStr (K := K)
    refine ⟨_, rfl, _, _, _, _, _, rfl, ClsV.ty "str", hy2, ko2, _, rfl, ite2 (fun k => ?_) (fun k => ?_)⟩
    · refine q0 _ ?_
      unfold pairB
      have z : isStrD c = false := by simpa using k
      cases c <;> first | rfl | cases z
    obtain ⟨y, rfl⟩ := isStrD_inv (d := c) (by simpa using k)
    obtain rfl := h2.str_inv
    refine ⟨_, rfl, _, rfl, sizeL (by show 2 ≤ 100000; decide), fun u hu => ?_⟩
    have r1 := Same.upd (o := .tup [.str x, .str y]) (Same.refl H) hu
    have hu1 : upd H u (.tup [.str x, .str y]) u = some (.tup [.str x, .str y]) := upd_same
    generalize upd H u (.tup [.str x, .str y]) = G at *
    have SG := S.same r1
    obtain ⟨dx, tv, de, kvs, h1, h2, h3, h4⟩ := SG.ex
    refine ⟨_, rfl, p, dx, _, rfl, h1, sFlds_no _ _ (by decide +kernel) (by decide +kernel), p, pl, rfl, SG, fun D G2 acc hD hDD hacc hl e2 => ?_⟩
    have hnm := colPairs_nm S.good
    refine ⟨refD (x, y), (colPairs pl).map refD, (Td.tup (e2 _ _ hu1) (.cons (.str _) (.cons (.str _) .nil))).dp, Dp.lst (SqL.of hDD) hacc.dp, (Fine.tup (n := 1) fun d hd => ?_).sh (by decide), (Fine.lst (n := 2) fun d hd => ?_).sh (by decide), ?_⟩
    · simp only [List.mem_cons, List.not_mem_nil, or_false] at hd
      rcases hd with rfl | rfl
      · exact can_str (can_tup hcan _ (by simp))
      · exact can_str (can_tup hcan _ (by simp))
    · obtain ⟨r, hr, rfl⟩ := List.mem_map.mp hd
      exact refD_fine (hnm r hr).1 (hnm r hr).2
    · rw [refs_any]
      have := q _ (r1.trans e2)
      rw [cl] at this
      exact this
end My
namespace My
open PySem L2
def spIsStep (CS : Addr) : Sp := fun vs H Q _ => ∃ (p : Addr) (pl : Plan) (v : V) (d : PyData), vs = [.ref p, v] ∧ SchAt CS H p pl ∧ Th H v d ∧ d.canLay0 = true ∧ ∀ H', Same H H' → Q (.bl (stepB pl d)) H'
theorem len4 {ds : List PyData} (h : ds.length = 4) : ∃ a b c d, ds = [a, b, c, d] := match ds, h with
  | [a, b, c, d], _ => ⟨a, b, c, d, rfl⟩
theorem len3 {ds : List PyData} (h : ds.length = 3) : ∃ a b c, ds = [a, b, c] := match ds, h with
  | [a, b, c], _ => ⟨a, b, c, rfl⟩
theorem stepB_len {pl : Plan} {ds : List PyData} (h3 : ds.length ≠ 3) (h4 : ds.length ≠ 4) : stepB pl (.tuple ds) = false := by
  unfold stepB
  split
  · rename_i e
    cases e
    exact absurd rfl h4
  · rename_i e
    cases e
    exact absurd rfl h3
  · rfl
theorem stepB_tup {pl : Plan} {d : PyData} (h : ∀ ds, d ≠ .tuple ds) : stepB pl d = false := by
  unfold stepB
  split
  · exact absurd rfl (h _)
  · exact absurd rfl (h _)
  · rfl
theorem ok_is_step {P : Program} {w : World} {K : PySem.W.Frag} {mg : Str → Option Value} {base : Heap} {CS CP XCarryError XNoSchema XNoStep XNoText XNoKept XMissing XNoColumn XNoFlag XNoKey XNoRow XNoStops XNoStrokes XNoTable XNotClosed XNothingBegun XNotSafe XNotSame XRefused XTaken XT_MISSING_WORDS XT_COLUMN_STEPS : Addr} (T : Txt K mg CS CP XCarryError XNoSchema XNoStep XNoText XNoKept XMissing XNoColumn XNoFlag XNoKey XNoRow XNoStops XNoStrokes XNoTable XNotClosed XNothingBegun XNotSafe XNotSame XRefused XTaken XT_MISSING_WORDS XT_COLUMN_STEPS) : CallOk P w K mg base 3 "_is_step" (spIsStep CS) := by
  have c_is_column_step_scripts := ok_is_column_step_scripts (P := P) (w := w) (base := base) T
  have c_is_load_scripts := ok_is_load_scripts (P := P) (w := w) (base := base) T
  refine T.d_is_step.ok sc_is_step (fun vs H Q E h => ?_) (fun f cdv A outer s H vs Q E hr h => ?_)
  · obtain ⟨p, pl, v, d, rfl, _⟩ := h
    rfl
  · obtain ⟨p, pl, v, d, rfl, S, hT, hcan, q⟩ := h
    refine ⟨_, (pss_cons (ps_if (pt_not (pt_val (pe_callB (kIsi (K := K)) (by rfl) T.n_isinstance (by decide +kernel) (pa_cons (pv 1) (pa_cons (pe_bltn (v := .ty "tuple") (by rfl) T.n_tuple (by decide +kernel) rfl) pa_nil))))) (pss_one (ps_ret pe_bl)) pss_nil)
      (pss_cons (ps_if (pt_cmpR op_eq (pe_callB (kLen (K := K)) (by rfl) T.n_len PySem.boot_len (pa_cons (pv 1) pa_nil)) pe_int (nomark _)) (pss_one (ps_ret (pe_callC c_is_load_scripts (hr.mono (by decide)) (pa_cons (pv 0) (pa_cons (pv 1) pa_nil))))) pss_nil)
      (pss_one (ps_ret (pe_and (pe_cmpR op_eq (pe_callB (kLen (K := K)) (by rfl) T.n_len PySem.boot_len (pa_cons (pv 1) pa_nil)) pe_int (nomark _)) (pe_one (pe_callC c_is_column_step_scripts (hr.mono (by decide)) (pa_cons (pv 0) (pa_cons (pv 1) pa_nil))))))))), ?_⟩
    by_cases hd : ∃ ds, d = .tuple ds
    · obtain ⟨ds, rfl⟩ := hd
      have hT0 := hT
      obtain ⟨t, xs, rfl, ht, hx⟩ := hT.tup_inv
      have hl : xs.length = ds.length := hx.length
      refine ⟨_, rfl, _, _, _, _, true, rfl, ClsV.ty "tuple", TyX.base (TyOf.tup ht), kit_ty (by decide +kernel), true, rfl, iteF ?_⟩
      refine ⟨_, rfl, t, _, rfl, .inr (SqT.of ht), rfl, _, rfl, ite2 (fun h => ?_) (fun h => ?_)⟩
      · have h4 : ds.length = 4 := by
          have := V.int.inj (of_decide_eq_true h)
          omega
        obtain ⟨w, n, m, f, rfl⟩ := len4 h4
        exact ⟨_, rfl, _, rfl, p, pl, .ref t, w, n, m, f, rfl, S, hT0, q⟩
      · have h4 : ds.length ≠ 4 := fun z => h (decide_eq_true (by rw [hl, z]; rfl))
        refine ⟨_, rfl, t, _, rfl, .inr (SqT.of ht), rfl, _, rfl, ite2 (fun h => ?_) (fun h => ?_)⟩
        · have h3 : ds.length = 3 := by
            have := V.int.inj (of_decide_eq_true h)
            omega
          obtain ⟨w, n, c, rfl⟩ := len3 h3
          exact ⟨_, rfl, _, rfl, p, pl, .ref t, w, n, c, rfl, S, hT0, hcan, q⟩
        · have h3 : ds.length ≠ 3 := fun z => h (decide_eq_true (by rw [hl, z]; rfl))
          have := q _ (Same.refl H)
          rw [stepB_len h3 h4] at this
          exact this
    · have n : ∀ ds, d ≠ .tuple ds := fun ds e => hd ⟨ds, e⟩
      obtain ⟨ty, hty, ko⟩ := hT.notTup (K := K) n
      have := q _ (Same.refl H)
      rw [stepB_tup n] at this
      exact ⟨_, rfl, _, _, _, _, false, rfl, ClsV.ty "tuple", hty, ko, false, rfl, iteT this⟩
end My
namespace My
open PySem L2
theorem spSchX_good {CS CM p dx : Addr} {H : Hp} {Q : VK} {E : XK} {v : V} {pl : Plan} (g : Good pl) (hT : Td H v (planD pl)) (hp : H p = some (.ins CS dx [])) (q : ∀ H' de, SchE CS H' p pl de → H de = none → Fr1 p H H' → Q .non H') : spSchX CS CM [.ref p, v] H Q E := by
  refine ⟨p, dx, v, planD pl, rfl, .inl hT.th, sh_plan g, hp, fun pl2 e g2 H' de S hd f => ?_, fun z => ?_, fun pl2 e g2 z => ?_⟩
  · obtain rfl := planD_inj e
    exact q H' de S hd f
  · rw [tabsB_plan g.zero] at z
    cases z
  · obtain rfl := planD_inj e
    rw [g.toB] at z
    cases z
def spScrX (CP CS CM CK : Addr) : Sp := fun vs H Q E => ∃ (p s dx : Addr) (v w : V) (pl : Plan) (d e : PyData), vs = [.ref p, .ref s, v, w] ∧ SchAt CS H s pl ∧ Th H v d ∧ d.canLay0 = true ∧ Th H w e ∧ H p = some (.ins CP dx []) ∧
  (∀ ds b, d = .tuple ds → badAt pl 0 ds = none → e = .bool b → ∀ H', ScrAt CP CS H' p pl ds b → Fr1 p H H' → Q .non H') ∧
  ((∀ ds, d ≠ .tuple ds) → ∀ H' x, Same H H' → H x = none → H' x = some (.xd [("index", .int 0)]) → E (.ref CM) (some x) H') ∧
  (∀ ds (i : Nat), d = .tuple ds → badAt pl 0 ds = some i → ∀ H' x, Same H H' → H x = none → H' x = some (.xd [("index", .int (i : Int))]) → E (.ref CM) (some x) H') ∧
  (∀ ds, d = .tuple ds → badAt pl 0 ds = none → isBoolD e = false → ∀ H', Same H H' → E (.ref CK) none H')
theorem body_Script_init {P : Program} {w : World} {K : PySem.W.Frag} {mg : Str → Option Value} {base : Heap} {CS CP XCarryError XNoSchema XNoStep XNoText XNoKept XMissing XNoColumn XNoFlag XNoKey XNoRow XNoStops XNoStrokes XNoTable XNotClosed XNothingBegun XNotSafe XNotSame XRefused XTaken XT_MISSING_WORDS XT_COLUMN_STEPS : Addr} (T : Txt K mg CS CP XCarryError XNoSchema XNoStep XNoText XNoKept XMissing XNoColumn XNoFlag XNoKey XNoRow XNoStops XNoStrokes XNoTable XNotClosed XNothingBegun XNotSafe XNotSame XRefused XTaken XT_MISSING_WORDS XT_COLUMN_STEPS) : BodyX P w K mg base 7 ["self", "schema", "steps", "kept", "index", "step"] "Script.__init__" s_Script_init (spScrX CP CS XNoStep XNoKept) := by
  have c_NoStep_init__ := ok_NoStep_init (P := P) (w := w) (base := base) T
  have c_Schema := ok_Schema_init (P := P) (w := w) (base := base) T
  have c_Schema_tables := ok_Schema_tables (P := P) (w := w) (base := base) T
  have c_is_step := ok_is_step (P := P) (w := w) (base := base) T
  have c_is_flag := ok_is_flag (P := P) (w := w) (base := base) T
  intro f cdv A outer s H vs Q E hr h
  · obtain ⟨p, sp, dx, v, w, pl, d, e0, rfl, S, hT, hcan, hW, hp, q0, qn, qi, qk⟩ := h
    refine ⟨_, (pss_cons (ps_if (pt_not (pt_val (pe_callB (kIsi (K := K)) (by rfl) T.n_isinstance (by decide +kernel) (pa_cons (pv 2) (pa_cons (pe_bltn (v := .ty "tuple") (by rfl) T.n_tuple (by decide +kernel) rfl) pa_nil))))) (pss_one (ps_raiseE rfl c_NoStep_init__ (hr.mono (by decide)) (takes_of rfl rfl rfl rfl) (pa_cons pe_int pa_nil))) pss_nil)
      (pss_cons (ps_for (passes_of rfl) rfl (pi_enumT (K := K) (by rfl) T.n_enumerate (pa_cons (pv 2) pa_nil)) (kPgT (K := K) (n := 2) rfl (pgs_cons (pg_name (i := 4) sc_Script_init.nd rfl (by first | exact Or.inl rfl | exact Or.inr rfl)) (pgs_cons (pg_name (i := 5) sc_Script_init.nd rfl (by first | exact Or.inl rfl | exact Or.inr rfl)) pgs_nil)))
      (pss_one (ps_if (PW.pt (pw_or (pt_cmpR op_ge (pv 4) (pe_globV T.v_MOST_STEPS) (nomark _)) (pw_or1 (pt_not (pt_val (pe_callC c_is_step (hr.mono (by decide)) (pa_cons (pv 1) (pa_cons (pv 5) pa_nil)))))))) (pss_one (ps_raiseE rfl c_NoStep_init__ (hr.mono (by decide)) (takes_of rfl rfl rfl rfl) (pa_cons (pv 4) pa_nil))) pss_nil)))
      (pss_cons (ps_if (pt_not (pt_val (pe_callC c_is_flag (hr.mono (by decide)) (pa_cons (pv 3) pa_nil)))) (pss_one (ps_raiseN rfl (T.d_CarryError_init.inh T.e_NoKept T.h_NoKept sc_CarryError_init len_CarryError_init (body_CarryError_init (k := 0) T)) (hr.mono (by decide)) (takes_of rfl rfl rfl rfl) (pa_cons pe_str pa_nil))) pss_nil)
      (pss_cons (ps_fld (pv 0) (pe_makeX c_Schema (hr.mono (by decide)) (takes_of rfl rfl rfl rfl) (pa_cons (pe_methC0 (pv 1) c_Schema_tables (hr.mono (by decide))) pa_nil)) rfl)
      (pss_cons (ps_fld (pv 0) (pv 2) rfl)
      (pss_one (ps_fld (pv 0) (pv 3) rfl))))))), ?_⟩
    by_cases hd : ∃ ds, d = .tuple ds
    case neg =>
      have n : ∀ ds, d ≠ .tuple ds := fun ds e => hd ⟨ds, e⟩
      obtain ⟨ty, hty, ko⟩ := hT.notTup (K := K) n
      exact ⟨_, rfl, _, _, _, _, false, rfl, ClsV.ty "tuple", hty, ko, false, rfl, iteT (errMk rfl (by decide) fun y hy => qn n _ y (Same.upd (Same.refl _) hy) hy upd_same)⟩
    obtain ⟨ds, rfl⟩ := hd
    have hcan' := can_tup hcan
    obtain ⟨t, xs, rfl, ht, hx⟩ := hT.tup_inv
    have hlx : xs.length = ds.length := hx.length
    refine ⟨_, rfl, _, _, _, _, true, rfl, ClsV.ty "tuple", TyX.base (TyOf.tup ht), kit_ty (by decide +kernel), true, rfl, iteF ?_⟩
    refine ⟨_, rfl, t, xs, rfl, SqT.of ht, for_enumT (K := K) (a := t) (xs := xs) (fun i σ Hi => ∃ (o4 o5 : Option V), σ = [some (.ref p), some (.ref sp), some (.ref t), some w, o4, o5] ∧ i ≤ 20 ∧ badAt pl 0 ds = badAt pl i (ds.drop i) ∧ Same H Hi) ?_ ?_ ?_ ?_⟩
    · exact ⟨_, _, rfl, by decide, rfl, Same.refl _⟩
    · rintro i σ Hi _ ⟨_, _, _, _, _, e⟩
      exact SqT.of (e _ _ ht)
    · rintro i x σ Hi T hix ⟨o4, o5, rfl, hi20, hb, e⟩ hTn
      have hil : i < xs.length := (List.getElem?_eq_some_iff.mp hix).1
      have e1 := Same.upd (o := .tup [.int (i : Nat), x]) e (e.free hTn)
      obtain ⟨d, hd, hTd⟩ := hx.get hix
      have hTd1 := hTd.same e1
      have S1 := S.same e1
      rw [badAt_at hd] at hb
      refine ⟨T, _, rfl, SqT.of upd_same, rfl, _, _, rfl, _, _, rfl, rfl, ?_⟩
      refine ⟨_, rfl, _, _, rfl, rfl, _, rfl, ite2 (fun h => ?_) (fun h => ?_)⟩
      · have h20 : 20 ≤ i := by
          have : (20 : Int) ≤ (i : Int) := of_decide_eq_true h
          omega
        rw [if_pos (.inl h20)] at hb
        refine iteT ⟨_, rfl, errMk rfl (by decide) fun y hy => qi ds i rfl hb _ y (Same.upd e1 (e1.free hy)) (e1.free hy) upd_same⟩
      have hi : i < 20 := by
        rcases Nat.lt_or_ge i 20 with z | z
        · exact z
        · exact absurd (decide_eq_true (show (20 : Int) ≤ (i : Int) by omega)) h
      refine ⟨_, rfl, _, rfl, sp, pl, x, d, rfl, S1, hTd1, hcan' _ (List.mem_of_getElem? hd), fun H2 e2 => ⟨_, rfl, ite2 (fun c => ?_) (fun c => ?_)⟩⟩
      · have c' : stepB pl d = false := by simpa using c
        rw [if_pos (.inr c')] at hb
        have e3 := e1.trans e2
        exact ⟨_, rfl, errMk rfl (by decide) fun y hy => qi ds i rfl hb _ y (Same.upd e3 (e3.free hy)) (e3.free hy) upd_same⟩
      · have c' : ¬ (20 ≤ i ∨ stepB pl d = false) := by
          rintro (z | z)
          · omega
          · rw [z] at c
            exact c rfl
        rw [if_neg c'] at hb
        exact ⟨_, _, rfl, by omega, hb, e1.trans e2⟩
    · rintro σ Hc ⟨o4, o5, rfl, hi20, hb, e⟩
      have hl : ds.length ≤ 20 := by omega
      rw [hlx, badAt_end] at hb
      have hst : ∀ d ∈ ds, StepD pl d := fun d hd => stepB_step (badAt_none hb d hd)
      have hx := hx.steps hst
      refine ⟨_, rfl, _, e0, rfl, hW.same e, ?_⟩
      refine ⟨_, rfl, ite2 (fun c => ?_) (fun c => ?_)⟩
      · have c' : isBoolD e0 = false := by simpa using c
        exact errMkN T.e_NoKept.ox fun H' eH => qk ds rfl hb c' H' (e.trans eH)
      obtain ⟨b, rfl⟩ := isBoolD_inv (d := e0) (by simpa using c)
      obtain rfl := hW.bl_inv
      have q := q0 ds b rfl hb rfl
      have SC := S.same e
      obtain ⟨sdx, tv, de, kvs, s1, s2, s3, s4⟩ := SC.ex
      refine ⟨_, rfl, sp, sdx, _, rfl, s1, sFlds_no _ _ (by decide +kernel) (by decide +kernel), sp, pl, rfl, SC, fun v hv => ?_⟩
      intro x xdx nx ndx nex
      show spSchX CS XNoSchema [.ref x, v] _ _ _
      refine spSchX_good S.good (hv.mono (KT.upd ((KT.refl Hc).upd ndx) nx)) upd_same fun H4 de4 S4 hde e4 => ⟨rfl, ?_⟩
      have t4 : Same Hc H4 := Same.made' nx ndx e4
      have e5 := e.trans t4
      have hp4 := e5 _ _ hp
      have npx : p ≠ x := fun z => by
        have := e _ _ hp
        rw [z, nx] at this
        cases this
      have npxd : p ≠ xdx := fun z => by
        have := e _ _ hp
        rw [z, ndx] at this
        cases this
      have npde : de4 ≠ p := fun z => by
        rw [z, upd_ne npx, upd_ne npxd, e _ _ hp] at hde
        cases hde
      refine ⟨_, rfl, p, CP, dx, [], rfl, hp4, T.c_Script.cl, T.a_Script_schema, (by show 0 < 1000; decide), ?_⟩
      refine ⟨_, rfl, _, rfl, p, CP, dx, _, rfl, upd_same, T.c_Script.cl, T.a_Script_steps, (by show 1 < 1000; decide), ?_⟩
      refine ⟨_, rfl, _, rfl, p, CP, dx, _, rfl, upd_same, T.c_Script.cl, T.a_Script_kept, (by show 2 < 1000; decide), ?_⟩
      refine q _ ⟨⟨dx, x, .ref t, upd_same, ?_, ?_⟩, hl, hst⟩ ?_
      · have kt : KT H4 (upd (upd (upd H4 p (.ins CP dx (putF "_schema" (V.ref x) []))) p (.ins CP dx (putF "_steps" (V.ref t) (putF "_schema" (V.ref x) [])))) p (.ins CP dx (putF "_kept" (V.bl b) (putF "_steps" (V.ref t) (putF "_schema" (V.ref x) []))))) := fun c ys hc => by
          have ne : c ≠ p := ne_of hc hp4 (by intro z; cases z)
          rw [upd_ne ne, upd_ne ne, upd_ne ne]
          exact hc
        exact (S4.keep kt (fun o ho => by rw [upd_ne npx.symm, upd_ne npx.symm, upd_ne npx.symm]; exact ho) (fun o ho => by rw [upd_ne npde, upd_ne npde, upd_ne npde]; exact ho)).at
      · have ht4 := e5 _ _ ht
        have ne : t ≠ p := ne_of ht4 hp4 (by intro z; cases z)
        have kt : KT H4 (upd (upd (upd H4 p (.ins CP dx (putF "_schema" (V.ref x) []))) p (.ins CP dx (putF "_steps" (V.ref t) (putF "_schema" (V.ref x) [])))) p (.ins CP dx (putF "_kept" (V.bl b) (putF "_steps" (V.ref t) (putF "_schema" (V.ref x) []))))) := fun c ys hc => by
          have ne : c ≠ p := ne_of hc hp4 (by intro z; cases z)
          rw [upd_ne ne, upd_ne ne, upd_ne ne]
          exact hc
        exact .tup (kt _ _ ht4) ((hx.mono (KT.of e5)).mono kt)
      · exact (((Fr1.of e5).at).at).at
theorem len_Script_init {CP CS CM CK : Addr} : ∀ vs H Q E, spScrX CP CS CM CK vs H Q E → vs.length = ["self", "schema", "steps", "kept"].length := by
  rintro vs H Q E ⟨p, s, dx, v, w, pl, d, e, rfl, _⟩
  rfl
theorem ok_Script_init {P : Program} {w : World} {K : PySem.W.Frag} {mg : Str → Option Value} {base : Heap} {CS CP XCarryError XNoSchema XNoStep XNoText XNoKept XMissing XNoColumn XNoFlag XNoKey XNoRow XNoStops XNoStrokes XNoTable XNotClosed XNothingBegun XNotSafe XNotSame XRefused XTaken XT_MISSING_WORDS XT_COLUMN_STEPS : Addr} (T : Txt K mg CS CP XCarryError XNoSchema XNoStep XNoText XNoKept XMissing XNoColumn XNoFlag XNoKey XNoRow XNoStops XNoStrokes XNoTable XNotClosed XNothingBegun XNotSafe XNotSame XRefused XTaken XT_MISSING_WORDS XT_COLUMN_STEPS) : MakeDX P w K mg base 8 CP "Script" [.bl true] (spScrX CP CS XNoStep XNoKept) :=
  T.d_Script_init.makeX T.c_Script sc_Script_init len_Script_init (body_Script_init T)
end My
namespace My
open PySem L2
def spKept (CP CS : Addr) : Sp := fun vs H Q _ => ∃ (p : Addr) (pl : Plan) (ds : List PyData) (b : Bool), vs = [.ref p] ∧ ScrAt CP CS H p pl ds b ∧ Q (.bl b) H
theorem ok_Script_kept {P : Program} {w : World} {K : PySem.W.Frag} {mg : Str → Option Value} {base : Heap} {CS CP XCarryError XNoSchema XNoStep XNoText XNoKept XMissing XNoColumn XNoFlag XNoKey XNoRow XNoStops XNoStrokes XNoTable XNotClosed XNothingBegun XNotSafe XNotSame XRefused XTaken XT_MISSING_WORDS XT_COLUMN_STEPS : Addr} (T : Txt K mg CS CP XCarryError XNoSchema XNoStep XNoText XNoKept XMissing XNoColumn XNoFlag XNoKey XNoRow XNoStops XNoStrokes XNoTable XNotClosed XNothingBegun XNotSafe XNotSame XRefused XTaken XT_MISSING_WORDS XT_COLUMN_STEPS) : PropOk P w K mg base 1 CP "kept" (spKept CP CS) := by
  refine T.d_Script_kept.ok T.c_Script.cl sc_Script_kept (fun vs H Q E h => ?_) (fun f cdv A outer s H vs Q E hr h => ?_)
  · obtain ⟨p, pl, ds, b, rfl, _⟩ := h
    rfl
  · obtain ⟨p, pl, ds, b, rfl, S, q⟩ := h
    obtain ⟨dx, sp, tv, h1, h2, h3⟩ := S.ex
    refine ⟨_, (pss_one (ps_ret (kFld (K := K) (pv 0) rfl))), ?_⟩
    exact ⟨_, rfl, p, CP, dx, _, _, rfl, h1, T.c_Script.cl, T.a_Script_kept, cFlds_k _ _ _, q⟩
end My
namespace My
open PySem L2
def spSteps (CP CS : Addr) : Sp := fun vs H Q _ => ∃ (p : Addr) (pl : Plan) (ds : List PyData) (b : Bool), vs = [.ref p] ∧ ScrAt CP CS H p pl ds b ∧ ∀ v, Td H v (.tuple ds) → Q v H
theorem ok_Script_steps {P : Program} {w : World} {K : PySem.W.Frag} {mg : Str → Option Value} {base : Heap} {CS CP XCarryError XNoSchema XNoStep XNoText XNoKept XMissing XNoColumn XNoFlag XNoKey XNoRow XNoStops XNoStrokes XNoTable XNotClosed XNothingBegun XNotSafe XNotSame XRefused XTaken XT_MISSING_WORDS XT_COLUMN_STEPS : Addr} (T : Txt K mg CS CP XCarryError XNoSchema XNoStep XNoText XNoKept XMissing XNoColumn XNoFlag XNoKey XNoRow XNoStops XNoStrokes XNoTable XNotClosed XNothingBegun XNotSafe XNotSame XRefused XTaken XT_MISSING_WORDS XT_COLUMN_STEPS) : MethOk P w K mg base 1 CP "steps" (spSteps CP CS) := by
  refine T.d_Script_steps.ok T.c_Script.cl sc_Script_steps (fun vs H Q E h => ?_) (fun f cdv A outer s H vs Q E hr h => ?_)
  · obtain ⟨p, pl, ds, b, rfl, _⟩ := h
    rfl
  · obtain ⟨p, pl, ds, b, rfl, S, q⟩ := h
    obtain ⟨dx, sp, tv, h1, h2, h3⟩ := S.ex
    refine ⟨_, (pss_one (ps_ret (kFld (K := K) (pv 0) rfl))), ?_⟩
    exact ⟨_, rfl, p, CP, dx, _, _, rfl, h1, T.c_Script.cl, T.a_Script_steps, cFlds_t _ _ _, q _ h3⟩
end My
namespace My
open PySem L2
theorem isStrD_no {d : PyData} (h : isStrD d = false) : ∀ x, d ≠ .str x := fun x e => by
  subst e
  cases h
def spParts (CN : Addr) : Sp := fun vs H Q E => ∃ (v : V) (d : PyData) (y : Str), vs = [v, .str y] ∧ Th H v d ∧ Sep y ∧ (∀ x, d = .str x → x.length ≤ 90000 ∧ ∀ p, H p = none → Q (.ref p) (upd H p (.lst ((Txt.split x y).map V.str)))) ∧ (isStrD d = false → Rs H E CN [("part", .int 0)])
theorem ok_parts {P : Program} {w : World} {K : PySem.W.Frag} {mg : Str → Option Value} {base : Heap} {CS CP XCarryError XNoSchema XNoStep XNoText XNoKept XMissing XNoColumn XNoFlag XNoKey XNoRow XNoStops XNoStrokes XNoTable XNotClosed XNothingBegun XNotSafe XNotSame XRefused XTaken XT_MISSING_WORDS XT_COLUMN_STEPS : Addr} (T : Txt K mg CS CP XCarryError XNoSchema XNoStep XNoText XNoKept XMissing XNoColumn XNoFlag XNoKey XNoRow XNoStops XNoStrokes XNoTable XNotClosed XNothingBegun XNotSafe XNotSame XRefused XTaken XT_MISSING_WORDS XT_COLUMN_STEPS) : CallX P w K mg base 5 "_parts" (spParts XNoText) := by
  have c_NoText_init__ := ok_NoText_init (P := P) (w := w) (base := base) T
  refine T.d_parts.okX sc_parts (fun vs H Q E h => ?_) (fun f cdv A outer s H vs Q E hr h => ?_)
  · obtain ⟨v, d, y, rfl, _⟩ := h
    rfl
  · obtain ⟨v, d, y, rfl, hT, hy, q, qe⟩ := h
    refine ⟨_, (pss_cons (ps_if (pt_not (pt_val (pe_callB (kIsi (K := K)) (by rfl) T.n_isinstance (by decide +kernel) (pa_cons (pv 0) (pa_cons (pe_bltn (v := .ty "str") (by rfl) T.n_str (by decide +kernel) rfl) pa_nil))))) (pss_one (ps_raiseE rfl c_NoText_init__ (hr.mono (by decide)) (takes_of rfl rfl rfl rfl) (pa_cons pe_int pa_nil))) pss_nil)
      (pss_one (ps_ret (pe_split (pv 0) (pv 1))))), ?_⟩
    by_cases hd : ∃ x, d = .str x
    case neg =>
      have n : ∀ x, d ≠ .str x := fun x e => hd ⟨x, e⟩
      obtain ⟨ty, hty, ko⟩ := hT.notStr (K := K) n
      have hf : isStrD d = false := by
        cases d with
        | str x => exact absurd rfl (n x)
        | _ => rfl
      refine ⟨_, rfl, _, _, _, _, false, rfl, ClsV.ty "str", hty, ko, false, rfl, iteT ?_⟩
      exact errMk rfl (by decide) fun y hy => qe hf _ y (Same.upd (Same.refl H) hy) hy upd_same
    obtain ⟨x, rfl⟩ := hd
    obtain rfl := hT.str_inv
    obtain ⟨hl, q⟩ := q x rfl
    refine ⟨_, rfl, _, _, _, _, true, rfl, ClsV.ty "str", TyX.base (TyOf.str x), kit_ty (by decide +kernel), _, rfl, iteF ?_⟩
    exact ⟨_, rfl, ⟨_, rfl⟩, _, rfl, x, y, rfl, rfl, hy.len, sizeL (by omega), q⟩
end My
namespace My
open PySem L2
theorem eqv_strs (as bs : List Str) : PyData.eqv (.list (as.map PyData.str)) (.list (bs.map PyData.str)) = decide (as = bs) := by
  rw [Bool.eq_iff_iff, decide_eq_true_iff]
  show PyData.eqvAll (as.map PyData.str) (bs.map PyData.str) = true ↔ _
  constructor
  · intro h
    have := eqvAll_map PyData.str as bs (fun x _ y _ e => of_decide_eq_true (by rw [← eqv_str2]; exact e)) h
    exact this
  · rintro rfl
    induction as with
    | nil => simp [PyData.eqvAll]
    | cons a r ih =>
      rw [List.map_cons]
      simp only [PyData.eqvAll, Bool.and_eq_true]
      exact ⟨by rw [eqv_str2]; exact decide_eq_true rfl, ih⟩
def spLoT : Sp := fun vs H Q _ => ∃ (p : Addr) (ws : List Str), vs = [.ref p] ∧ H p = some (.lst (ws.map V.str)) ∧ ws.length ≤ 2000 ∧ (∀ w ∈ ws, w.length ≤ 1000 ∧ ∀ c ∈ cd w, c < 0x110000) ∧ ∀ H', Same H H' → Q (.bl (loadTB ws)) H'
theorem ok_is_load_texts {P : Program} {w : World} {K : PySem.W.Frag} {mg : Str → Option Value} {base : Heap} {CS CP XCarryError XNoSchema XNoStep XNoText XNoKept XMissing XNoColumn XNoFlag XNoKey XNoRow XNoStops XNoStrokes XNoTable XNotClosed XNothingBegun XNotSafe XNotSame XRefused XTaken XT_MISSING_WORDS XT_COLUMN_STEPS : Addr} (T : Txt K mg CS CP XCarryError XNoSchema XNoStep XNoText XNoKept XMissing XNoColumn XNoFlag XNoKey XNoRow XNoStops XNoStrokes XNoTable XNotClosed XNothingBegun XNotSafe XNotSame XRefused XTaken XT_MISSING_WORDS XT_COLUMN_STEPS) : CallOk P w K mg base 2 "is_load_texts" spLoT := by
  have c_is_name := ok_is_name (P := P) (w := w) (base := base) T
  refine T.d_is_load_texts.ok sc_is_load_texts (fun vs H Q E h => ?_) (fun f cdv A outer s H vs Q E hr h => ?_)
  · obtain ⟨p, ws, rfl, _⟩ := h
    rfl
  · obtain ⟨p, ws, rfl, hp, hl, hw, q⟩ := h
    refine ⟨_, (pss_cons (ps_if (PW.pt (pw_or (pt_cmpR op_lt (pe_callB (kLen (K := K)) (by rfl) T.n_len PySem.boot_len (pa_cons (pv 0) pa_nil)) pe_int (nomark _)) (pw_or (pt_cmpR op_ne (pe_ix (kIxL (K := K)) (pv 0) pe_int (fun _ _ => rfl)) pe_str (nomark _)) (pw_or1 (pt_cmpR (kNotInT (K := K) (u65 hr)) (pe_slice sl_list (pv 0) (po_some pe_int) po_none) (pe_tup (pa_cons (pe_lst pa_nil) (pa_cons (pe_lst (pa_cons pe_str pa_nil)) pa_nil))) rfl))))) (pss_one (ps_ret pe_bl)) pss_nil)
      (pss_one (ps_ret (pe_and (pe_callC c_is_name (hr.mono (by decide)) (pa_cons (pe_ix (kIxL (K := K)) (pv 0) pe_int (fun _ _ => rfl)) pa_nil)) (pe_one (pe_cmpR (kIn (K := K)) (pe_ix (kIxL (K := K)) (pv 0) pe_int (fun _ _ => rfl)) (pe_globV (v := .ref XT_MISSING_WORDS) ⟨_, T.t_MISSING_WORDS, rfl⟩) rfl)))))), ?_⟩
    by_cases h3 : ws.length < 3
    · have hf : loadTB ws = false := by
        match ws, h3 with
        | [], _ => rfl
        | [_], _ => rfl
        | [_, _], _ => rfl
      rw [hf] at q
      refine ⟨_, rfl, p, _, rfl, .inl (SqL.of hp), _, _, rfl, rfl, _, rfl, ite2 (fun c => iteT (q _ (Same.refl H))) (fun c => absurd (decide_eq_true (by rw [List.length_map]; omega)) c)⟩
    obtain ⟨w, n, m, r, rfl⟩ : ∃ w n m r, ws = w :: n :: m :: r := by
      match ws, h3 with
      | [], h => exact absurd (by decide) h
      | [_], h => exact absurd (by simp) h
      | [_, _], h => exact absurd (by simp) h
      | w :: n :: m :: r, _ => exact ⟨w, n, m, r, rfl⟩
    have hval : loadTB (w :: n :: m :: r) = (decide (w = "load") && (decide (r = [] ∨ r = [("match" : Str)]) && (nameB (.str n) && decide (m ∈ [("raw" : Str), "blank", "refuse"])))) := rfl
    rw [hval] at q
    refine ⟨_, rfl, p, _, rfl, .inl (SqL.of hp), _, _, rfl, rfl, _, rfl, ite2 (fun c => ?_) (fun c => ?_)⟩
    · exfalso
      have := of_decide_eq_true c
      rw [List.length_map, List.length_cons, List.length_cons, List.length_cons] at this
      omega
    refine ⟨_, rfl, p, _, _, _, rfl, rfl, SqL.of hp, atI_nat (j := 0) rfl, rfl, _, rfl, ?_⟩
    by_cases hwl : w = "load"
    case neg =>
      rw [decide_eq_false hwl] at q
      rw [decide_eq_false (show ¬ V.str w = V.str "load" from fun z => hwl (V.str.inj z))]
      exact iteT (iteT (q _ (Same.refl H)))
    subst hwl
    rw [decide_eq_true rfl, Bool.true_and] at q
    rw [decide_eq_true rfl]
    refine iteF ?_
    refine ⟨_, rfl, _, rfl, p, _, rfl, SqL.of hp, fun X hX => ?_⟩
    have e1 := Same.upd (o := .lst (cutV ((("load" : Str) :: n :: m :: r).map V.str) (some 3) none)) (Same.refl H) hX
    have hX1 : upd H X (.lst (cutV ((("load" : Str) :: n :: m :: r).map V.str) (some 3) none)) X = some (.lst (r.map V.str)) := by
      rw [upd_same]
      refine congrArg (fun l => some (HO.lst l)) ?_
      show cutV ((("load" : Str) :: n :: m :: r).map V.str) (some ((3 : Nat) : Int)) none = _
      rw [cutV_strs, cutL_from]
      rfl
    generalize upd H X (.lst (cutV ((("load" : Str) :: n :: m :: r).map V.str) (some 3) none)) = G1 at *
    refine ⟨sizeL (by show 0 ≤ 100000; decide), fun A hA => ?_⟩
    have e2 := Same.upd (o := .lst []) (Same.refl G1) hA
    have hA1 : upd G1 A (.lst []) A = some (.lst []) := upd_same
    have hX2 := e2 _ _ hX1
    generalize upd G1 A (.lst []) = G2 at *
    refine ⟨sizeL (by show 1 ≤ 100000; decide), fun B hB => ?_⟩
    have e3 := Same.upd (o := .lst [.str "match"]) (Same.refl G2) hB
    have hB1 : upd G2 B (.lst [.str "match"]) B = some (.lst ([("match" : Str)].map V.str)) := upd_same
    have hA2 := e3 _ _ hA1
    have hX3 := e3 _ _ hX2
    generalize upd G2 B (.lst [.str "match"]) = G3 at *
    refine ⟨sizeL (by show 2 ≤ 100000; decide), fun U hU => ?_⟩
    have e4 := Same.upd (o := .tup [.ref A, .ref B]) (Same.refl G3) hU
    have hU1 : upd G3 U (.tup [.ref A, .ref B]) U = some (.tup [.ref A, .ref B]) := upd_same
    have hB2 := e4 _ _ hB1
    have hA3 := e4 _ _ hA2
    have hX4 := e4 _ _ hX3
    generalize upd G3 U (.tup [.ref A, .ref B]) = G4 at *
    have e14 := ((e1.trans e2).trans e3).trans e4
    have fr : Fine 2 (.list (r.map PyData.str)) := Fine.lst (n := 1) fun d hd => by
      obtain ⟨x, hx, rfl⟩ := List.mem_map.mp hd
      exact Fine.str (hw x (by simp [hx])).2
    have fm : Fine 2 (.list ([("match" : Str)].map PyData.str)) := Fine.lst (n := 1) fun d hd => by
      rw [List.mem_singleton.mp hd]
      exact nm_match.fine
    refine ⟨.list (r.map PyData.str), [.list (([] : List Str).map PyData.str), .list ([("match" : Str)].map PyData.str)], Dp.lst (SqL.of hX4) (TdAll.strs r).dp, Dp.tup (SqT.of hU1) (.cons (Dp.lst (SqL.of hA3) .nil) (.cons (Dp.lst (SqL.of hB2) (TdAll.strs _).dp) .nil)), fr.sh (by decide), (Fine.tup (n := 2) fun d hd => ?_).sh (by decide), _, rfl, ?_⟩
    · simp only [List.mem_cons, List.not_mem_nil, or_false] at hd
      rcases hd with rfl | rfl
      · exact (Fine.lst (n := 1) (by simp)).up (by decide)
      · exact fm
    have hany : (([PyData.list (([] : List Str).map PyData.str), .list ([("match" : Str)].map PyData.str)] : List PyData).any fun z => PyData.eqv z (.list (r.map PyData.str))) = decide (r = [] ∨ r = [("match" : Str)]) := by
      simp only [List.any_cons, List.any_nil, Bool.or_false]
      rw [eqv_strs, eqv_strs]
      by_cases h1 : ([] : List Str) = r
      · subst h1
        simp
      · by_cases h2 : [("match" : Str)] = r
        · subst h2
          simp
        · rw [decide_eq_false h1, decide_eq_false h2, decide_eq_false (fun z => by
            rcases z with z | z
            · exact h1 z.symm
            · exact h2 z.symm)]
          rfl
    rw [hany]
    by_cases hr' : r = [] ∨ r = [("match" : Str)]
    case neg =>
      rw [decide_eq_false hr'] at q ⊢
      exact iteT (q _ e14)
    rw [decide_eq_true hr', Bool.true_and] at q
    rw [decide_eq_true hr']
    refine iteF ?_
    have hp4 := e14 _ _ hp
    refine ⟨_, rfl, p, _, _, _, rfl, rfl, SqL.of hp4, atI_nat (j := 1) rfl, _, .str n, rfl, .str n, .str n (hw n (by simp)).1, fun G5 e5 => ⟨_, rfl, ite2 (fun c => ?_) (fun c => ?_)⟩⟩
    · rw [show nameB (.str n) = true from c, Bool.true_and] at q
      refine ⟨_, rfl, p, _, _, _, rfl, rfl, SqL.of (e5 _ _ hp4), atI_nat (j := 2) rfl, XT_MISSING_WORDS, _, rfl, .inr (T.w_MISSING_WORDS _), rfl, rfl, ?_⟩
      show Q (.bl (if false = true then _ else inV (.str m) ([("raw" : Str), "blank", "refuse"].map V.str))) G5
      rw [if_neg (by decide), inV_strs]
      exact q _ (e14.trans e5)
    · rw [show nameB (.str n) = false by simpa using c] at q
      exact q _ (e14.trans e5)
end My
namespace My
open PySem L2
def spCoT : Sp := fun vs H Q _ => ∃ (p : Addr) (ws : List Str), vs = [.ref p] ∧ H p = some (.lst (ws.map V.str)) ∧ ws.length ≤ 2000 ∧ (∀ w ∈ ws, w.length ≤ 1000) ∧ ∀ H', Same H H' → Q (.bl (colTB ws)) H'
theorem ok_is_column_step_texts {P : Program} {w : World} {K : PySem.W.Frag} {mg : Str → Option Value} {base : Heap} {CS CP XCarryError XNoSchema XNoStep XNoText XNoKept XMissing XNoColumn XNoFlag XNoKey XNoRow XNoStops XNoStrokes XNoTable XNotClosed XNothingBegun XNotSafe XNotSame XRefused XTaken XT_MISSING_WORDS XT_COLUMN_STEPS : Addr} (T : Txt K mg CS CP XCarryError XNoSchema XNoStep XNoText XNoKept XMissing XNoColumn XNoFlag XNoKey XNoRow XNoStops XNoStrokes XNoTable XNotClosed XNothingBegun XNotSafe XNotSame XRefused XTaken XT_MISSING_WORDS XT_COLUMN_STEPS) : CallOk P w K mg base 2 "is_column_step_texts" spCoT := by
  have c_is_name := ok_is_name (P := P) (w := w) (base := base) T
  refine T.d_is_column_step_texts.ok sc_is_column_step_texts (fun vs H Q E h => ?_) (fun f cdv A outer s H vs Q E hr h => ?_)
  · obtain ⟨p, ws, rfl, _⟩ := h
    rfl
  · obtain ⟨p, ws, rfl, hp, hl, hw, q⟩ := h
    refine ⟨_, (pss_one (ps_ret (pe_and (pe_cmpR op_eq (pe_callB (kLen (K := K)) (by rfl) T.n_len PySem.boot_len (pa_cons (pv 0) pa_nil)) pe_int (nomark _)) (pe_and (pe_cmpR (kIn (K := K)) (pe_ix (kIxL (K := K)) (pv 0) pe_int (fun _ _ => rfl)) (pe_globV (v := .ref XT_COLUMN_STEPS) ⟨_, T.t_COLUMN_STEPS, rfl⟩) rfl) (pe_and (pe_callC c_is_name (hr.mono (by decide)) (pa_cons (pe_ix (kIxL (K := K)) (pv 0) pe_int (fun _ _ => rfl)) pa_nil)) (pe_one (pe_callC c_is_name (hr.mono (by decide)) (pa_cons (pe_ix (kIxL (K := K)) (pv 0) pe_int (fun _ _ => rfl)) pa_nil)))))))), ?_⟩
    by_cases h3 : ws.length = 3
    case neg =>
      have hf : colTB ws = false := by
        match ws, h3 with
        | [], _ => rfl
        | [_], _ => rfl
        | [_, _], _ => rfl
        | [_, _, _], h => exact absurd rfl h
        | _ :: _ :: _ :: _ :: _, _ => rfl
      rw [hf] at q
      refine ⟨_, rfl, p, _, rfl, .inl (SqL.of hp), rfl, _, rfl, ?_⟩
      rw [decide_eq_false (fun z => h3 (by have := V.int.inj z; rw [List.length_map] at this; omega))]
      exact iteF (q _ (Same.refl H))
    obtain ⟨w, n, c, rfl⟩ : ∃ w n c, ws = [w, n, c] := match ws, h3 with
      | [w, n, c], _ => ⟨w, n, c, rfl⟩
    have hval : colTB [w, n, c] = (decide (w ∈ [("patch" : Str), "fill", "sweep"]) && (nameB (.str n) && nameB (.str c))) := rfl
    rw [hval] at q
    refine ⟨_, rfl, p, _, rfl, .inl (SqL.of hp), rfl, true, rfl, iteT ?_⟩
    refine ⟨_, rfl, p, _, _, _, rfl, rfl, SqL.of hp, atI_nat (j := 0) rfl, XT_COLUMN_STEPS, _, rfl, .inr (T.w_COLUMN_STEPS _), rfl, rfl, ?_⟩
    show ∃ c, V.bl (if false = true then _ else inV (.str w) ([("patch" : Str), "fill", "sweep"].map V.str)) = .bl c ∧ _
    rw [if_neg (by decide), inV_strs]
    refine ⟨_, rfl, ?_⟩
    by_cases hc : w ∈ [("patch" : Str), "fill", "sweep"]
    case neg =>
      rw [decide_eq_false hc] at q ⊢
      exact iteF (q _ (Same.refl H))
    rw [decide_eq_true hc, Bool.true_and] at q
    rw [decide_eq_true hc]
    refine iteT ?_
    refine ⟨_, rfl, p, _, _, _, rfl, rfl, SqL.of hp, atI_nat (j := 1) rfl, _, .str n, rfl, .str n, .str n (hw n (by simp)), fun G5 e5 => ⟨_, rfl, ite2 (fun k => ?_) (fun k => ?_)⟩⟩
    · rw [show nameB (.str n) = true from k, Bool.true_and] at q
      exact ⟨_, rfl, p, _, _, _, rfl, rfl, SqL.of (e5 _ _ hp), atI_nat (j := 2) rfl, _, .str c, rfl, .str c, .str c (hw c (by simp)), fun G6 e6 => q _ (e5.trans e6)⟩
    · rw [show nameB (.str n) = false by simpa using k] at q
      exact q _ e5
end My
namespace My
open PySem L2
def spSt : Sp := fun vs H Q _ => ∃ (p : Addr) (ws : List Str), vs = [.ref p] ∧ H p = some (.lst (ws.map V.str)) ∧ stepTB ws = true ∧ ∀ v H', Td H' v (stepOf ws).d → Same H H' → Q v H'
theorem ok_step {P : Program} {w : World} {K : PySem.W.Frag} {mg : Str → Option Value} {base : Heap} {CS CP XCarryError XNoSchema XNoStep XNoText XNoKept XMissing XNoColumn XNoFlag XNoKey XNoRow XNoStops XNoStrokes XNoTable XNotClosed XNothingBegun XNotSafe XNotSame XRefused XTaken XT_MISSING_WORDS XT_COLUMN_STEPS : Addr} (T : Txt K mg CS CP XCarryError XNoSchema XNoStep XNoText XNoKept XMissing XNoColumn XNoFlag XNoKey XNoRow XNoStops XNoStrokes XNoTable XNotClosed XNothingBegun XNotSafe XNotSame XRefused XTaken XT_MISSING_WORDS XT_COLUMN_STEPS) : CallOk P w K mg base 1 "_step" spSt := by
  skip
  refine T.d_step.ok sc_step (fun vs H Q E h => ?_) (fun f cdv A outer s H vs Q E hr h => ?_)
  · obtain ⟨p, ws, rfl, _⟩ := h
    rfl
  · obtain ⟨p, ws, rfl, hp, ht, q⟩ := h
    obtain ⟨s0, rfl, hn, hs⟩ := stepTB_inv ht
    rw [hs] at q
    refine ⟨_, (pss_cons (ps_if (pt_cmpR op_ne (pe_ix (kIxL (K := K)) (pv 0) pe_int (fun _ _ => rfl)) pe_str (nomark _)) (pss_one (ps_ret (pe_callTy (kTup (K := K)) (by rfl) T.n_tuple (by decide +kernel) (pa_cons (pv 0) pa_nil)))) pss_nil)
      (pss_one (ps_ret (pe_tup (pa_cons (pe_ix (kIxL (K := K)) (pv 0) pe_int (fun _ _ => rfl)) (pa_cons (pe_ix (kIxL (K := K)) (pv 0) pe_int (fun _ _ => rfl)) (pa_cons (pe_ix (kIxL (K := K)) (pv 0) pe_int (fun _ _ => rfl)) (pa_cons (pe_cmpR op_eq (pe_callB (kLen (K := K)) (by rfl) T.n_len PySem.boot_len (pa_cons (pv 0) pa_nil)) pe_int (nomark _)) pa_nil)))))))), ?_⟩
    cases s0 with
    | col w n c =>
      refine ⟨_, rfl, p, _, _, _, rfl, rfl, SqL.of hp, atI_nat (j := 0) rfl, rfl, _, rfl, ?_⟩
      rw [decide_eq_false (fun z => cols_ne hn.1 (V.str.inj z))]
      refine iteT ?_
      refine ⟨_, rfl, p, _, rfl, .inl ⟨SqL.of hp, fun l hl => ?_⟩⟩
      exact q _ _ (.tup upd_same (.cons (.str _) (.cons (.str _) (.cons (.str _) .nil)))) (Same.upd (Same.refl H) hl)
    | load n m b =>
      refine ⟨_, rfl, p, _, _, _, rfl, rfl, SqL.of hp, atI_nat (j := 0) rfl, rfl, _, rfl, ifSame ?_⟩
      refine ⟨_, rfl, p, _, _, _, rfl, rfl, SqL.of hp, atI_nat (j := 0) rfl, _, rfl, p, _, _, _, rfl, rfl, SqL.of hp, atI_nat (j := 1) rfl, _, rfl, p, _, _, _, rfl, rfl, SqL.of hp, atI_nat (j := 2) rfl, _, rfl, p, _, rfl, .inl (SqL.of hp), rfl, sizeL (by show 4 ≤ 100000; decide), fun u hu => ?_⟩
      refine q _ _ (.tup upd_same (.cons (.str _) (.cons (.str _) (.cons (.str _) (.cons ?_ .nil))))) (Same.upd (Same.refl H) hu)
      have : decide (V.int ((((stepW (.load n m b)).map V.str).length : Nat) : Int) = V.int 4) = b := by
        cases b
        · exact decide_eq_false (fun z => by
            have := V.int.inj z
            simp [stepW] at this)
        · rfl
      rw [this]
      exact .bl _
end My
namespace My
open PySem L2
theorem spl_mem {S : List Nat} : ∀ (l : List Nat) (k : Nat) (acc p : List Nat), p ∈ TL.spl S k acc l → ∀ c ∈ p, c ∈ acc ∨ c ∈ l
  | [], k, acc, p, h, c, hc => by
    rw [TL.spl_nil] at h
    rw [List.mem_singleton.mp h] at hc
    exact .inl hc
  | a :: r, 0, acc, p, h, c, hc => by
    by_cases e : TL.pre S (a :: r) = true
    · rw [TL.spl_hit e] at h
      rcases List.mem_cons.mp h with rfl | h
      · exact .inl hc
      · rcases spl_mem r _ _ _ h c hc with h | h
        · cases h
        · exact .inr (List.mem_cons_of_mem _ h)
    · rw [TL.spl_miss (by simpa using e)] at h
      rcases spl_mem r _ _ _ h c hc with h | h
      · rcases List.mem_append.mp h with h | h
        · exact .inl h
        · exact .inr (by rw [List.mem_singleton.mp h]; exact List.mem_cons_self)
      · exact .inr (List.mem_cons_of_mem _ h)
  | a :: r, k + 1, acc, p, h, c, hc => by
    rcases spl_mem r k acc p h c hc with h | h
    · exact .inl h
    · exact .inr (List.mem_cons_of_mem _ h)
theorem part_cd {x y p : Str} (s : Sep y) (h : p ∈ Txt.split x y) : ∀ c ∈ cd p, c ∈ cd x := fun c hc => by
  have h2 : TL.tl p ∈ (Txt.split x y).map TL.tl := List.mem_map.mpr ⟨p, h, rfl⟩
  rw [TL.split_spl x y s.ne (TL.kind_ok s.lat)] at h2
  rcases spl_mem _ _ _ _ h2 c hc with z | z
  · cases z
  · exact z
def spReadP (CP CS CN CM : Addr) : Sp := fun vs H Q E => ∃ (s : Addr) (v : V) (pl : Plan) (d : PyData), vs = [.ref s, v] ∧ SchAt CS H s pl ∧ Th H v d ∧ (∀ x, d = .str x → x.length ≤ 20000 ∧ (∀ p ∈ Txt.split x "; ", p.length ≤ 1000) ∧ ∀ c ∈ cd x, c < 0x110000) ∧
  (isStrD d = false → Rs H E CN [("part", .int 0)]) ∧
  (∀ x i, d = .str x → badS x = some i → Rs H E CN [("part", .int (i : Nat))]) ∧
  (∀ x i, d = .str x → badS x = none → badAt pl 0 ((stsOf x).map Step.d) = some i → Rs H E CM [("index", .int (i : Nat))]) ∧
  ∀ x, d = .str x → badS x = none → badAt pl 0 ((stsOf x).map Step.d) = none → ∀ p H', ScrAt CP CS H' p pl ((stsOf x).map Step.d) (kpOf x) → H p = none → Same H H' → Q (.ref p) H'
theorem len_read_script {CP CS CN CM : Addr} : ∀ vs H Q E, spReadP CP CS CN CM vs H Q E → vs.length = ["schema", "text"].length := by
  rintro vs H Q E ⟨s, v, pl, d, rfl, _⟩
  rfl
theorem Rs.of2 {H H1 : Hp} {E : XK} {C : Addr} {fs : List (Str × V)} (h : Rs H E C fs) (e : Same H H1) : Rs H1 E C fs := fun H' x e' hx hx' => h H' x (e.trans e') (e.free hx) hx'
theorem Step.nice_can : ∀ {s : Step}, s.Nice → s.d.canLay0 = true
  | .load n m b, h => (Fine.tup (n := 1) (ds := [.str "load", .str n, .str m, .bool b]) fun d hd => by
      simp only [List.mem_cons, List.not_mem_nil, or_false] at hd
      rcases hd with rfl | rfl | rfl | rfl
      · exact nm_load.fine
      · exact h.1.fine
      · exact (nm_miss h.2).fine
      · exact Fine.bool b).1
  | .col w n c, h => (Fine.tup (n := 1) (ds := [.str w, .str n, .str c]) fun d hd => by
      simp only [List.mem_cons, List.not_mem_nil, or_false] at hd
      rcases hd with rfl | rfl | rfl
      · exact (nm_cols h.1).fine
      · exact h.2.1.fine
      · exact h.2.2.fine).1
theorem body_read_script {P : Program} {w : World} {K : PySem.W.Frag} {mg : Str → Option Value} {base : Heap} {CS CP XCarryError XNoSchema XNoStep XNoText XNoKept XMissing XNoColumn XNoFlag XNoKey XNoRow XNoStops XNoStrokes XNoTable XNotClosed XNothingBegun XNotSafe XNotSame XRefused XTaken XT_MISSING_WORDS XT_COLUMN_STEPS : Addr} (T : Txt K mg CS CP XCarryError XNoSchema XNoStep XNoText XNoKept XMissing XNoColumn XNoFlag XNoKey XNoRow XNoStops XNoStrokes XNoTable XNotClosed XNothingBegun XNotSafe XNotSame XRefused XTaken XT_MISSING_WORDS XT_COLUMN_STEPS) : BodyX P w K mg base 9 ["schema", "text", "parts", "steps", "at", "part", "words"] "read_script" s_read_script (spReadP CP CS XNoText XNoStep) := by
  have c_NoText_init__ := ok_NoText_init (P := P) (w := w) (base := base) T
  have c_Script := ok_Script_init (P := P) (w := w) (base := base) T
  have c_parts := ok_parts (P := P) (w := w) (base := base) T
  have c_step := ok_step (P := P) (w := w) (base := base) T
  have c_is_column_step_texts := ok_is_column_step_texts (P := P) (w := w) (base := base) T
  have c_is_load_texts := ok_is_load_texts (P := P) (w := w) (base := base) T
  intro f cdv A outer s H vs Q E hr h
  · obtain ⟨sp, v, pl, d, rfl, S, hT, hs, qs, qi, qk, q⟩ := h
    refine ⟨_, (pss_cons (ps_set (i := 2) sc_read_script.nd rfl (by first | exact Or.inl rfl | exact Or.inr rfl) (pe_callX c_parts (hr.mono (by decide)) (takes_of rfl rfl rfl rfl) (pa_cons (pv 1) (pa_cons pe_str pa_nil))))
      (pss_cons (ps_if (pt_cmpR (kNotIn (K := K)) (pe_ix (kIxL (K := K)) (pv 2) pe_int (fun _ _ => rfl)) (pe_tup (pa_cons pe_str (pa_cons pe_str pa_nil))) rfl) (pss_one (ps_raiseE rfl c_NoText_init__ (hr.mono (by decide)) (takes_of rfl rfl rfl rfl) (pa_cons pe_int pa_nil))) pss_nil)
      (pss_cons (ps_set (i := 3) sc_read_script.nd rfl (by first | exact Or.inl rfl | exact Or.inr rfl) (pe_lst pa_nil))
      (pss_cons (ps_for (passes_of rfl) rfl (pi_enumS (K := K) (by rfl) T.n_enumerate (pa_cons (pe_slice sl_list (pv 2) (po_some pe_int) po_none) pa_nil) (pk_cons pe_int pk_nil)) (kPgT (K := K) (n := 2) rfl (pgs_cons (pg_name (i := 4) sc_read_script.nd rfl (by first | exact Or.inl rfl | exact Or.inr rfl)) (pgs_cons (pg_name (i := 5) sc_read_script.nd rfl (by first | exact Or.inl rfl | exact Or.inr rfl)) pgs_nil)))
      (pss_cons (ps_set (i := 6) sc_read_script.nd rfl (by first | exact Or.inl rfl | exact Or.inr rfl) (pe_split (pv 5) pe_str))
          (pss_cons (ps_if (PW.pt (pw_and (pt_not (pt_val (pe_callC c_is_load_texts (hr.mono (by decide)) (pa_cons (pv 6) pa_nil)))) (pw_and1 (pt_not (pt_val (pe_callC c_is_column_step_texts (hr.mono (by decide)) (pa_cons (pv 6) pa_nil))))))) (pss_one (ps_raiseE rfl c_NoText_init__ (hr.mono (by decide)) (takes_of rfl rfl rfl rfl) (pa_cons (pv 4) pa_nil))) pss_nil)
          (pss_one (ps_expr (pe_bm PySem.F.plainAttrs_list PySem.F.slot_list_append PySem.F.type_list_append mt_append (pv 3) (pa_cons (pe_callC c_step (hr.mono (by decide)) (pa_cons (pv 6) pa_nil)) pa_nil)))))))
      (pss_one (ps_ret (pe_makeDX c_Script (hr.mono (by decide)) (takes_of rfl rfl rfl rfl) (pa_cons (pv 0) (pa_cons (pe_callTy (kTup (K := K)) (by rfl) T.n_tuple (by decide +kernel) (pa_cons (pv 3) pa_nil)) (pa_cons (pe_cmpR op_eq (pe_ix (kIxL (K := K)) (pv 2) pe_int (fun _ _ => rfl)) pe_str (nomark _)) pa_nil)))))))))), ?_⟩
    refine ⟨_, rfl, v, d, _, rfl, hT, sep_semi, fun x hx => ?_, fun hf => qs hf⟩
    subst hx
    obtain rfl := hT.str_inv
    obtain ⟨hxl, hxp, hcd⟩ := hs x rfl
    refine ⟨by omega, fun p hp => ?_⟩
    have e0 := Same.upd (o := .lst ((Txt.split x "; ").map V.str)) (Same.refl H) hp
    have hp1 : upd H p (.lst ((Txt.split x "; ").map V.str)) p = some (.lst ((Txt.split x "; ").map V.str)) := upd_same
    generalize upd H p (.lst ((Txt.split x "; ").map V.str)) = G0 at *
    have hnum := part_num (x := x) sep_semi
    have hpos := part_pos (x := x) sep_semi
    have heach : ∀ l ∈ Txt.split x "; ", l.length ≤ 1000 ∧ ∀ c ∈ cd l, c < 0x110000 := fun l hl => ⟨hxp l hl, fun c hc => hcd c (part_cd sep_semi hl c hc)⟩
    have hbs : badS x = match Txt.split x "; " with
      | k :: r => if k = "kept" ∨ k = "lost" then badP 1 r else some 0
      | [] => some 0 := rfl
    have hso : stsOf x = ((Txt.split x "; ").drop 1).map fun p => stepOf (Txt.split p " ") := rfl
    have hko : kpOf x = decide ((Txt.split x "; ")[0]? = some ("kept" : Str)) := rfl
    generalize Txt.split x "; " = ls at *
    obtain ⟨k, r, rfl⟩ : ∃ k r, ls = k :: r := by
      match ls, hpos with
      | [], h => exact absurd rfl h
      | k :: r, _ => exact ⟨k, r, rfl⟩
    have hbs : badS x = if k = "kept" ∨ k = "lost" then badP 1 r else some 0 := hbs
    have hso : stsOf x = r.map fun p => stepOf (Txt.split p " ") := hso
    have hko : kpOf x = decide (some k = some ("kept" : Str)) := hko
    rw [List.length_cons] at hnum
    refine ⟨_, rfl, p, _, _, _, rfl, rfl, SqL.of hp1, atI_nat (j := 0) rfl, sizeL (by show 2 ≤ 100000; decide), fun t ht => ?_⟩
    have e1 := Same.upd (o := .tup [.str "kept", .str "lost"]) (Same.refl G0) ht
    have ht1 : upd G0 t (.tup [.str "kept", .str "lost"]) t = some (.tup ([("kept" : Str), "lost"].map V.str)) := upd_same
    have hp2 := e1 _ _ hp1
    generalize upd G0 t (.tup [.str "kept", .str "lost"]) = G1 at *
    have e01 := e0.trans e1
    refine ⟨t, _, rfl, .inr (SqT.of ht1), rfl, flat_strs _, _, rfl, ?_⟩
    show if (if true = true then !inV (.str k) ([("kept" : Str), "lost"].map V.str) else inV (.str k) ([("kept" : Str), "lost"].map V.str)) = true then _ else _
    rw [if_pos rfl, inV_strs]
    by_cases hk : k ∈ [("kept" : Str), "lost"]
    case neg =>
      rw [decide_eq_false hk]
      refine iteT ?_
      have hbad : badS x = some 0 := by
        rw [hbs, if_neg (fun z => hk (by simpa using z))]
      exact errMk rfl (by decide) fun y hy => qi x 0 rfl hbad _ y (Same.upd e01 (e01.free hy)) (e01.free hy) upd_same
    rw [decide_eq_true hk]
    refine iteF ?_
    have hbs : badS x = badP 1 r := by
      rw [hbs, if_pos (by simpa using hk)]
    refine ⟨sizeL (by show 0 ≤ 100000; decide), fun T0 hT0 => ?_⟩
    have e2 := Same.upd (o := .lst []) (Same.refl G1) hT0
    have hT1 : upd G1 T0 (.lst []) T0 = some (.lst []) := upd_same
    have hp3 := e2 _ _ hp2
    generalize upd G1 T0 (.lst []) = G2 at *
    refine ⟨_, rfl, _, rfl, p, _, rfl, SqL.of hp3, fun X hX => ?_⟩
    have e3 := Same.upd (o := .lst (cutV ((k :: r).map V.str) (some 1) none)) (Same.refl G2) hX
    have hX1 : upd G2 X (.lst (cutV ((k :: r).map V.str) (some 1) none)) X = some (.lst (r.map V.str)) := by
      rw [upd_same]
      refine congrArg (fun l => some (HO.lst l)) ?_
      show cutV ((k :: r).map V.str) (some ((1 : Nat) : Int)) none = _
      rw [cutV_strs, cutL_from]
      rfl
    have hT2 := e3 _ _ hT1
    have nXT : X ≠ T0 := fun z => by rw [z, hT1] at hX; cases hX
    generalize upd G2 X (.lst (cutV ((k :: r).map V.str) (some 1) none)) = G3 at *
    have e13 := e2.trans e3
    refine ⟨X, _, 1, rfl, SqL.of hX1, rfl, by decide, by decide, for_it (walk_enumS (K := K) (a := X) (xs := r.map V.str) (c := 1)) (fun i σ Hi => ∃ (acc : List V) (o4 o5 o6 : Option V), σ = [some (.ref sp), some (.str x), some (.ref p), some (.ref T0), o4, o5, o6] ∧ i ≤ r.length ∧ Hi T0 = some (.lst acc) ∧ TdAll Hi acc (((r.take i).map fun l => stepOf (Txt.split l " ")).map Step.d) ∧ (∀ l ∈ r.take i, stepTB (Txt.split l " ") = true) ∧ badS x = badP (1 + i) (r.drop i) ∧ Hi X = some (.lst (r.map V.str)) ∧ Same G1 Hi) ?_ ?_ ?_ ?_⟩
    · exact ⟨[], _, _, _, rfl, Nat.zero_le _, hT2, .nil, by simp, hbs, hX1, e13⟩
    · rintro i σ Hi _ ⟨_, _, _, _, _, _, _, _, _, _, h, _⟩
      exact SqL.of h
    · rintro i it σ Hi Hj hi ⟨acc, o4, o5, o6, rfl, hil, hTi, hTd, hgood, hbad, hXi, ei⟩ ⟨Tp, ix, y, rfl, hTp, rfl, hix, hy⟩
      have hix : some (V.int (1 + (i : Nat))) = some ix := hix
      rw [show (1 : Int) + (i : Nat) = ((1 + i : Nat) : Int) by omega] at hix
      cases hix
      rw [List.length_map] at hi
      have hy : (r.map V.str)[i]? = some y := hy
      rw [List.getElem?_map, List.getElem?_eq_getElem hi] at hy
      cases hy
      have e4 := Same.upd (o := .tup [.int (1 + i : Nat), .str r[i]]) (Same.refl Hi) hTp
      have hTp1 : upd Hi Tp (.tup [.int (1 + i : Nat), .str r[i]]) Tp = some (.tup [.int (1 + i : Nat), .str r[i]]) := upd_same
      generalize upd Hi Tp (.tup [.int (1 + i : Nat), .str r[i]]) = G4 at *
      refine ⟨Tp, _, rfl, SqT.of hTp1, rfl, _, _, rfl, _, _, rfl, rfl, ?_⟩
      have hlm : r[i] ∈ r := List.getElem_mem hi
      obtain ⟨hll, hlc⟩ := heach _ (List.mem_cons_of_mem _ hlm)
      have hdrop := badP_at (List.getElem?_eq_getElem hi) 1
      have htk := List.take_succ_eq_append_getElem hi
      generalize r[i] = l at *
      refine ⟨_, rfl, ⟨_, rfl⟩, l, _, rfl, rfl, sep_space.len, sizeL (by have := part_num (x := l) sep_space; omega), fun W hW => ?_⟩
      have e5 := Same.upd (o := .lst ((Txt.split l " ").map V.str)) (Same.refl G4) hW
      have hW1 : upd G4 W (.lst ((Txt.split l " ").map V.str)) W = some (.lst ((Txt.split l " ").map V.str)) := upd_same
      generalize upd G4 W (.lst ((Txt.split l " ").map V.str)) = G5 at *
      have hwn := part_num (x := l) sep_space
      have hwl : ∀ w ∈ Txt.split l " ", w.length ≤ 1000 ∧ ∀ c ∈ cd w, c < 0x110000 := fun w hw => ⟨Nat.le_trans (part_len sep_space hw) hll, fun c hc => hlc c (part_cd sep_space hw c hc)⟩
      have e45 := e4.trans e5
      have hval : stepTB (Txt.split l " ") = (loadTB (Txt.split l " ") || colTB (Txt.split l " ")) := rfl
      refine ⟨_, rfl, W, _, rfl, hW1, by omega, hwl, fun G6 e6 => ?_⟩
      have bad : badS x = some (1 + i) → ∀ G, Same G6 G → ∀ y, G y = none → E (.ref XNoText) (some y) (upd G y (.xd [("part", .int (1 + i : Nat))])) := fun hb G eg y hy => by
        have ee := ((e01.trans ei).trans e45).trans (e6.trans eg)
        exact qi x (1 + i) rfl hb _ y (Same.upd ee (ee.free hy)) (ee.free hy) upd_same
      have good : stepTB (Txt.split l " ") = true → ∀ G, Same G6 G → ∀ u G7, Td G7 u (stepOf (Txt.split l " ")).d → Same G G7 → ∃ (acc2 : List V), G7 T0 = some (.lst acc) ∧ acc.length = i ∧ upd G7 T0 (.lst (acc ++ [u])) T0 = some (.lst acc2) ∧ TdAll (upd G7 T0 (.lst (acc ++ [u]))) acc2 (((r.take (i + 1)).map fun l => stepOf (Txt.split l " ")).map Step.d) ∧ (∀ l ∈ r.take (i + 1), stepTB (Txt.split l " ") = true) ∧ badS x = badP (1 + (i + 1)) (r.drop (i + 1)) ∧ upd G7 T0 (.lst (acc ++ [u])) X = some (.lst (r.map V.str)) ∧ Same G1 (upd G7 T0 (.lst (acc ++ [u]))) := by
        intro hok G eg u G7 hu e7
        have ee := (e45.trans (e6.trans eg)).trans e7
        have hT7 := ee _ _ hTi
        have kF : KT G7 (upd G7 T0 (.lst (acc ++ [u]))) := (KT.refl G7).updL hT7
        have hal : acc.length = i := by rw [hTd.length, List.length_map, List.length_map, List.length_take]; omega
        refine ⟨acc ++ [u], hT7, hal, upd_same, ?_, ?_, ?_, ?_, ?_⟩
        · rw [htk, List.map_append, List.map_append]
          exact ((hTd.mono (KT.of ee)).mono kF).append (.cons (hu.mono kF) .nil)
        · intro z hz
          rw [htk] at hz
          rcases List.mem_append.mp hz with h | h
          · exact hgood z h
          · rw [List.mem_singleton.mp h]; exact hok
        · rw [hbad, hdrop, if_pos hok]
        · rw [upd_ne nXT]
          exact ee _ _ hXi
        · intro c o hc
          rw [upd_ne (ne_of_none hc hT0)]
          exact ee _ _ (ei _ _ hc)
      have go : stepTB (Txt.split l " ") = true → ∀ G, Same G6 G → ∃ (w : Addr), True := fun _ _ _ => ⟨0, trivial⟩
      clear go
      by_cases hL : loadTB (Txt.split l " ") = true
      case neg =>
        refine ⟨_, rfl, ite2 (fun c => ?_) (fun c => absurd (by simpa using c) hL)⟩
        refine ⟨_, rfl, W, _, rfl, e6 _ _ hW1, by omega, fun w hw => (hwl w hw).1, fun G7 e7 => ⟨_, rfl, ite2 (fun c2 => ?_) (fun c2 => ?_)⟩⟩
        · have hno : ¬ stepTB (Txt.split l " ") = true := by
            rw [hval, show colTB (Txt.split l " ") = false by simpa using c2, Bool.or_false]
            exact hL
          have hb2 : badS x = some (1 + i) := by rw [hbad, hdrop, if_neg hno]
          exact ⟨_, rfl, errMk rfl (by decide) fun y hy => bad hb2 _ e7 y hy⟩
        have hok : stepTB (Txt.split l " ") = true := by
          rw [hval, show colTB (Txt.split l " ") = true by simpa using c2, Bool.or_true]
        have e47 := (e45.trans e6).trans e7
        refine ⟨_, rfl, .inl ⟨rfl, _, SqL.of (e47 _ _ hTi)⟩, _, rfl, W, _, rfl, (e6.trans e7) _ _ hW1, hok, fun u G8 hu e8 => ?_⟩
        obtain ⟨acc2, hT8, hal, g1, g2, g3, g4, g5, g6⟩ := good hok G7 e7 u G8 hu e8
        exact ⟨T0, acc, _, rfl, rfl, hT8, sizeLt (by omega), acc2, _, _, _, rfl, hi, g1, g2, g3, g4, g5, g6⟩
      have hok : stepTB (Txt.split l " ") = true := by
        rw [hval, hL, Bool.true_or]
      refine ⟨_, rfl, ite2 (fun c => absurd hL (by simpa using c)) (fun c => ?_)⟩
      have e46 := e45.trans e6
      refine ⟨_, rfl, .inl ⟨rfl, _, SqL.of (e46 _ _ hTi)⟩, _, rfl, W, _, rfl, e6 _ _ hW1, hok, fun u G8 hu e8 => ?_⟩
      obtain ⟨acc2, hT8, hal, g1, g2, g3, g4, g5, g6⟩ := good hok G6 (Same.refl _) u G8 hu e8
      exact ⟨T0, acc, _, rfl, rfl, hT8, sizeLt (by omega), acc2, _, _, _, rfl, hi, g1, g2, g3, g4, g5, g6⟩
    · rintro σ Hi ⟨acc, o4, o5, o6, rfl, _, hTi, hTd, hgood, hbad, hXi, ei⟩
      rw [List.length_map, List.take_length] at hTd hgood
      rw [List.length_map, List.drop_length] at hbad
      have hbad : badS x = none := hbad
      refine ⟨_, rfl, _, rfl, T0, _, rfl, .inl ⟨SqL.of hTi, fun tl htl => ?_⟩⟩
      have e4 := Same.upd (o := .tup acc) (Same.refl Hi) htl
      have hv : Td (upd Hi tl (.tup acc)) (.ref tl) (.tuple ((stsOf x).map Step.d)) := by
        refine .tup upd_same ?_
        rw [hso]
        exact hTd.mono (KT.of e4)
      have hp4 := e4 _ _ (ei _ _ hp2)
      generalize upd Hi tl (.tup acc) = G4 at *
      have ee := (e01.trans ei).trans e4
      refine ⟨_, rfl, p, _, _, _, rfl, rfl, SqL.of hp4, atI_nat (j := 0) rfl, rfl, fun sx sdx nsx nsd nse => ?_⟩
      have e5 := Same.upd (o := .ins CP sdx []) (Same.upd (o := .own sx) (Same.refl G4) nsd) nsx
      have e5H := ee.trans e5
      have hkb : decide (V.str k = V.str "kept") = kpOf x := by
        rw [hko, Bool.eq_iff_iff, decide_eq_true_iff, decide_eq_true_iff]
        constructor
        · intro z
          rw [V.str.inj z]
        · intro z
          rw [Option.some.inj z]
      refine ⟨sx, sp, sdx, .ref tl, _, pl, .tuple ((stsOf x).map Step.d), .bool (decide (V.str k = V.str "kept")), rfl, S.same e5H, (hv.kt_same e5).th, ?_, .bl _, upd_same, fun ds b hds hn hb H' S' f' => ?_, fun z => absurd rfl (z _), fun ds i hds hb => ?_, fun ds _ _ z => by cases z⟩
      · simp only [PyData.canLay0]
        refine canAll fun d hd => ?_
        obtain ⟨st, hst, rfl⟩ := List.mem_map.mp hd
        rw [hso] at hst
        obtain ⟨l, hl, rfl⟩ := List.mem_map.mp hst
        obtain ⟨s2, h1, h2, h3⟩ := stepTB_inv (hgood l hl)
        rw [h3]
        exact Step.nice_can h2
      · cases hds
        cases hb
        rw [hkb] at S'
        exact ⟨rfl, q x rfl hbad hn sx _ S' (ee.free nsx) (ee.trans (Same.made' nsx nsd f'))⟩
      · cases hds
        exact (qk x i rfl hbad hb).of2 e5H
theorem ok_read_script {P : Program} {w : World} {K : PySem.W.Frag} {mg : Str → Option Value} {base : Heap} {CS CP XCarryError XNoSchema XNoStep XNoText XNoKept XMissing XNoColumn XNoFlag XNoKey XNoRow XNoStops XNoStrokes XNoTable XNotClosed XNothingBegun XNotSafe XNotSame XRefused XTaken XT_MISSING_WORDS XT_COLUMN_STEPS : Addr} (T : Txt K mg CS CP XCarryError XNoSchema XNoStep XNoText XNoKept XMissing XNoColumn XNoFlag XNoKey XNoRow XNoStops XNoStrokes XNoTable XNotClosed XNothingBegun XNotSafe XNotSame XRefused XTaken XT_MISSING_WORDS XT_COLUMN_STEPS) : CallX P w K mg base 10 "read_script" (spReadP CP CS XNoText XNoStep) := T.d_read_script.okX sc_read_script len_read_script (body_read_script T)
theorem kc_read_script {P : Program} {w : World} {K : PySem.W.Frag} {mg : Str → Option Value} {base : Heap} {CS CP XCarryError XNoSchema XNoStep XNoText XNoKept XMissing XNoColumn XNoFlag XNoKey XNoRow XNoStops XNoStrokes XNoTable XNotClosed XNothingBegun XNotSafe XNotSame XRefused XTaken XT_MISSING_WORDS XT_COLUMN_STEPS : Addr} (T : Txt K mg CS CP XCarryError XNoSchema XNoStep XNoText XNoKept XMissing XNoColumn XNoFlag XNoKey XNoRow XNoStops XNoStrokes XNoTable XNotClosed XNothingBegun XNotSafe XNotSame XRefused XTaken XT_MISSING_WORDS XT_COLUMN_STEPS) : CallKX P w K mg base 10 "read_script" ["text", "schema"] (fun vs zs => vs ++ zs.reverse) (spReadP CP CS XNoText XNoStep) :=
  T.d_read_script.okKX sc_read_script len_read_script (body_read_script T) (fun us ws => us ++ ws.reverse) (fun r1 r2 => r1.append r2.reverse) fun _ _ _ _ _ _ us ws h1 h2 => match us, ws, h1, h2 with | [], [_, _], _, _ => rfl
end My
namespace My
open PySem L2
def spLT : Sp := fun vs H Q _ => ∃ (t : Addr) (xs : List V) (b : Bool) (ts : List Step), vs = [.ref t, .bl b] ∧ H t = some (.lst xs) ∧ TdAll H xs (ts.map Step.d) ∧ (∀ s ∈ ts, s.Nice) ∧ ts.length ≤ 20 ∧ ∀ H', Same H H' → Q (.str (scriptS b ts)) H'
theorem kept_word (b : Bool) (i : Int) (h : i = if b then 1 else 0) : (L2.atI ([.str "lost", .str "kept"] : List V) i) = some (.str (keptS b)) := by
  subst h
  cases b <;> rfl
theorem col_text (w n c : Str) : stepT (.col w n c) = w ++ " " ++ n ++ " " ++ c := by
  show Txt.join " " [w, n, c] = _
  rw [join_cons, join_cons, join_one]
  exact cd_ext (by simp only [cd_app, List.append_assoc])
theorem load_text (n m : Str) : stepT (.load n m false) = "load" ++ " " ++ n ++ " " ++ m := by
  show Txt.join " " ["load", n, m] = _
  rw [join_cons, join_cons, join_one]
  exact cd_ext (by simp only [cd_app, List.append_assoc])
theorem load_match (n m : Str) : stepT (.load n m true) = "load" ++ " " ++ n ++ " " ++ m ++ " match" := by
  show Txt.join " " ["load", n, m, "match"] = _
  rw [join_cons, join_cons, join_cons, join_one]
  have : cd (" match" : Str) = cd (" " : Str) ++ cd ("match" : Str) := by decide +kernel
  exact cd_ext (by simp only [cd_app, List.append_assoc, this])
theorem ok_law_text {P : Program} {w : World} {K : PySem.W.Frag} {mg : Str → Option Value} {base : Heap} {CS CP XCarryError XNoSchema XNoStep XNoText XNoKept XMissing XNoColumn XNoFlag XNoKey XNoRow XNoStops XNoStrokes XNoTable XNotClosed XNothingBegun XNotSafe XNotSame XRefused XTaken XT_MISSING_WORDS XT_COLUMN_STEPS : Addr} (T : Txt K mg CS CP XCarryError XNoSchema XNoStep XNoText XNoKept XMissing XNoColumn XNoFlag XNoKey XNoRow XNoStops XNoStrokes XNoTable XNotClosed XNothingBegun XNotSafe XNotSame XRefused XTaken XT_MISSING_WORDS XT_COLUMN_STEPS) : CallOk P w K mg base 1 "_law_text" spLT := by
  skip
  refine T.d_law_text.ok sc_law_text (fun vs H Q E h => ?_) (fun f cdv A outer s H vs Q E hr h => ?_)
  · obtain ⟨t, xs, b, ts, rfl, _⟩ := h
    rfl
  · obtain ⟨t, xs, b, ts, rfl, ht, hx, hn, l20, q⟩ := h
    have hlx : xs.length = ts.length := by rw [hx.length, List.length_map]
    have hsum := scriptS_sum (b := b) hn l20
    refine ⟨_, (pss_cons (ps_set (i := 2) sc_law_text.nd rfl (by first | exact Or.inl rfl | exact Or.inr rfl) (pe_ix (kIxL (K := K)) (pe_lst (pa_cons pe_str (pa_cons pe_str pa_nil))) (pe_callTy call_int1 (by rfl) T.n_int (by decide +kernel) (pa_cons (pv 1) pa_nil)) (fun _ _ => rfl)))
      (pss_cons (ps_for PassesOwn.never rfl (kPiL (K := K) (pv 0)) (pg_name (i := 3) sc_law_text.nd rfl (by first | exact Or.inl rfl | exact Or.inr rfl))
      (pss_cons (ps_set (i := 2) sc_law_text.nd rfl (by first | exact Or.inl rfl | exact Or.inr rfl) (pe_op op_add_str (pe_op op_add_str (pe_op op_add_str (pe_op op_add_str (pe_op op_add_str (pe_op op_add_str (pv 2) pe_str) (pe_ix (kIxT (K := K)) (pv 3) pe_int (fun _ _ => rfl))) pe_str) (pe_ix (kIxT (K := K)) (pv 3) pe_int (fun _ _ => rfl))) pe_str) (pe_ix (kIxT (K := K)) (pv 3) pe_int (fun _ _ => rfl))))
          (pss_one (ps_if (PW.pt (pw_and (pt_cmpR op_eq (pe_ix (kIxT (K := K)) (pv 3) pe_int (fun _ _ => rfl)) pe_str (nomark _)) (pw_and1 (pt_val (pe_ix (kIxT (K := K)) (pv 3) pe_int (fun _ _ => rfl)))))) (pss_one (ps_set (i := 2) sc_law_text.nd rfl (by first | exact Or.inl rfl | exact Or.inr rfl) (pe_op op_add_str (pv 2) pe_str))) pss_nil))))
      (pss_one (ps_ret (pv 2))))), ?_⟩
    refine ⟨sizeL (by show 2 ≤ 100000; decide), fun M hM => ?_⟩
    have e0 := Same.upd (o := .lst [.str "lost", .str "kept"]) (Same.refl H) hM
    have hM1 : upd H M (.lst [.str "lost", .str "kept"]) M = some (.lst [.str "lost", .str "kept"]) := upd_same
    generalize upd H M (.lst [.str "lost", .str "kept"]) = G at *
    refine ⟨_, rfl, .inr ⟨_, rfl, M, _, _, .str (keptS b), rfl, rfl, SqL.of hM1, by cases b <;> rfl, ?_⟩⟩
    have htG := e0 _ _ ht
    refine ⟨_, rfl, t, rfl, ⟨_, SqL.of htG⟩, for_list (K := K) (a := t) (xs := xs) (fun i σ Hi => ∃ o3 : Option V, σ = [some (.ref t), some (.bl b), some (.str (Txt.join "; " ((keptS b :: ts.map stepT).take (1 + i)))), o3] ∧ Same G Hi) ?_ ?_ ?_ ?_⟩
    · have h1 : Txt.join "; " ((keptS b :: ts.map stepT).take (1 + 0)) = keptS b := join_one _ _
      refine ⟨none, ?_, Same.refl _⟩
      rw [h1]
      rfl
    · rintro i σ Hi _ ⟨_, _, e⟩
      exact SqL.of (e _ _ htG)
    · rintro i y σ Hi hy ⟨o3, rfl, ei⟩
      have hil : i < xs.length := (List.getElem?_eq_some_iff.mp hy).1
      obtain ⟨s, hs, hTd⟩ := (hx.mono (KT.of (e0.trans ei))).getM hy
      have hsm := List.mem_of_getElem? hs
      have hsn := hn s hsm
      obtain ⟨tt, rfl, htt⟩ := Step.td hTd
      have hjn := join_take_len "; " (keptS b :: ts.map stepT) (1 + i)
      rw [len_semi] at hjn
      have hjt := join_take "; " (ws := keptS b :: ts.map stepT) (j := 1 + i) (by omega) (by rw [List.length_cons, List.length_map]; omega)
      have hwj : (keptS b :: ts.map stepT)[1 + i]'(by rw [List.length_cons, List.length_map]; omega) = stepT s := by
        have h2 : (keptS b :: ts.map stepT)[1 + i]? = some (stepT s) := by
          rw [show 1 + i = i + 1 by omega]
          show (ts.map stepT)[i]? = _
          rw [List.getElem?_map, hs]
          rfl
        exact (List.getElem?_eq_some_iff.mp h2).2
      rw [hwj] at hjt
      generalize hW : Txt.join "; " ((keptS b :: ts.map stepT).take (1 + i)) = W at *
      have hWl : W.length ≤ 800 := by omega
      cases s with
      | col w n c =>
        have l1 := (nm_cols hsn.1).hi
        have l2 := hsn.2.1.hi
        have l3 := hsn.2.2.hi
        refine ⟨_, rfl, _, _, rfl, rfl, sizeL (by rw [len_semi]; omega), _, rfl, tt, _, _, _, rfl, rfl, SqT.of htt, atI_nat (j := 0) rfl, _, _, rfl, rfl, sizeL (by rw [str_len, len_semi]; omega), _, _, rfl, rfl, sizeL (by rw [str_len, str_len, len_semi, len_space]; omega), _, rfl, tt, _, _, _, rfl, rfl, SqT.of htt, atI_nat (j := 1) rfl, _, _, rfl, rfl, sizeL (by rw [str_len, str_len, str_len, len_semi, len_space]; omega), _, _, rfl, rfl, sizeL (by rw [str_len, str_len, str_len, str_len, len_semi, len_space]; omega), _, rfl, tt, _, _, _, rfl, rfl, SqT.of htt, atI_nat (j := 2) rfl, _, _, rfl, rfl, sizeL (by rw [str_len, str_len, str_len, str_len, str_len, len_semi, len_space]; omega), ?_⟩
        refine ⟨_, rfl, tt, _, _, _, rfl, rfl, SqT.of htt, atI_nat (j := 0) rfl, rfl, _, rfl, ?_⟩
        rw [decide_eq_false (fun z => cols_ne hsn.1 (V.str.inj z))]
        refine iteF ⟨some (.ref tt), ?_, ei⟩
        rw [show 1 + (i + 1) = 1 + i + 1 by omega, hjt, col_text]
        have : W ++ "; " ++ (w ++ " " ++ n ++ " " ++ c) = W ++ "; " ++ w ++ " " ++ n ++ " " ++ c := cd_ext (by simp only [cd_app, List.append_assoc])
        rw [this]
        rfl
      | load n m f =>
        have l1 := nm_load.hi
        have l2 := hsn.1.hi
        have l3 := (nm_miss hsn.2).hi
        refine ⟨_, rfl, _, _, rfl, rfl, sizeL (by rw [len_semi]; omega), _, rfl, tt, _, _, _, rfl, rfl, SqT.of htt, atI_nat (j := 0) rfl, _, _, rfl, rfl, sizeL (by rw [str_len, len_semi]; omega), _, _, rfl, rfl, sizeL (by rw [str_len, str_len, len_semi, len_space]; omega), _, rfl, tt, _, _, _, rfl, rfl, SqT.of htt, atI_nat (j := 1) rfl, _, _, rfl, rfl, sizeL (by rw [str_len, str_len, str_len, len_semi, len_space]; omega), _, _, rfl, rfl, sizeL (by rw [str_len, str_len, str_len, str_len, len_semi, len_space]; omega), _, rfl, tt, _, _, _, rfl, rfl, SqT.of htt, atI_nat (j := 2) rfl, _, _, rfl, rfl, sizeL (by rw [str_len, str_len, str_len, str_len, str_len, len_semi, len_space]; omega), ?_⟩
        refine ⟨_, rfl, tt, _, _, _, rfl, rfl, SqT.of htt, atI_nat (j := 0) rfl, rfl, _, rfl, ?_⟩
        rw [decide_eq_true rfl]
        refine iteT ?_
        cases f with
        | false =>
          refine ⟨_, rfl, tt, _, _, _, rfl, rfl, SqT.of htt, atI_nat (j := 3) rfl, _, rfl, iteF ⟨some (.ref tt), ?_, ei⟩⟩
          rw [show 1 + (i + 1) = 1 + i + 1 by omega, hjt, load_text]
          have : W ++ "; " ++ ("load" ++ " " ++ n ++ " " ++ m) = W ++ "; " ++ "load" ++ " " ++ n ++ " " ++ m := cd_ext (by simp only [cd_app, List.append_assoc])
          rw [this]
          rfl
        | true =>
          refine ⟨_, rfl, tt, _, _, _, rfl, rfl, SqT.of htt, atI_nat (j := 3) rfl, _, rfl, iteT ⟨_, rfl, _, _, rfl, rfl, sizeL (by rw [str_len, str_len, str_len, str_len, str_len, str_len, len_semi, len_space, show (" match" : Str).length = 6 by decide +kernel]; omega), some (.ref tt), ?_, ei⟩⟩
          rw [show 1 + (i + 1) = 1 + i + 1 by omega, hjt, load_match]
          have : W ++ "; " ++ ("load" ++ " " ++ n ++ " " ++ m ++ " match") = W ++ "; " ++ "load" ++ " " ++ n ++ " " ++ m ++ " match" := cd_ext (by simp only [cd_app, List.append_assoc])
          rw [this]
          rfl
    · rintro σ Hi ⟨o3, rfl, ei⟩
      have hw : (keptS b :: ts.map stepT).take (1 + xs.length) = keptS b :: ts.map stepT := List.take_of_length_le (by rw [List.length_cons, List.length_map]; omega)
      rw [hw]
      exact ⟨_, rfl, q _ (e0.trans ei)⟩
end My
namespace My
open PySem L2
def spLIN : Sp := fun vs H Q _ => ∃ (w : Str), vs = [.str w] ∧ w.length ≤ 1000 ∧ ∀ H', Same H H' → Q (.bl (nameB (.str w))) H'
theorem ok_law_is_name {P : Program} {w : World} {K : PySem.W.Frag} {mg : Str → Option Value} {base : Heap} {CS CP XCarryError XNoSchema XNoStep XNoText XNoKept XMissing XNoColumn XNoFlag XNoKey XNoRow XNoStops XNoStrokes XNoTable XNotClosed XNothingBegun XNotSafe XNotSame XRefused XTaken XT_MISSING_WORDS XT_COLUMN_STEPS : Addr} (T : Txt K mg CS CP XCarryError XNoSchema XNoStep XNoText XNoKept XMissing XNoColumn XNoFlag XNoKey XNoRow XNoStops XNoStrokes XNoTable XNotClosed XNothingBegun XNotSafe XNotSame XRefused XTaken XT_MISSING_WORDS XT_COLUMN_STEPS) : CallOk P w K mg base 1 "_law_is_name" spLIN := by
  skip
  refine T.d_law_is_name.ok sc_law_is_name (fun vs H Q E h => ?_) (fun f cdv A outer s H vs Q E hr h => ?_)
  · obtain ⟨w, rfl, _⟩ := h
    rfl
  · obtain ⟨w, rfl, hl, q⟩ := h
    have hz : w.length ≤ sizeLine := sizeL (by omega)
    have hval : nameB (.str w) = (decide (1 ≤ w.length ∧ w.length ≤ 8) && (cd w).all azB) := rfl
    rw [hval] at q
    refine ⟨_, (pss_cons (ps_if (PW.pt (pw_or (pt_cmpR op_lt (pe_callB call_len_str (by rfl) T.n_len PySem.boot_len (pa_cons (pv 0) pa_nil)) pe_int (nomark _)) (pw_or1 (pt_cmpR op_gt (pe_callB call_len_str (by rfl) T.n_len PySem.boot_len (pa_cons (pv 0) pa_nil)) pe_int (nomark _))))) (pss_one (ps_ret pe_bl)) pss_nil)
      (pss_one (ps_ret (pe_callB (kAll (K := K) rfl) (by rfl) T.n_all (by decide +kernel) (pa_cons (pe_lc (own := [("letter", 1)]) rfl sc_law_is_name.nd (kPiL (K := K) (pe_callTy (call_listS rfl) (by rfl) T.n_list (by decide +kernel) (pa_cons (pv 0) pa_nil))) (blkOk_by (N := ["word", "letter"]) (sc := defScope s_law_is_name) (own := [("letter", 1)]) (by decide +kernel)) (fun _ _ _ _ _ => (pg_name (i := 1) sc_law_is_name.nd rfl (by first | exact Or.inl rfl | exact Or.inr rfl))) (fun _ _ _ _ _ => pts_nil) (fun _ _ _ _ _ => (pe_cmpR op_in_sign (pv 1) pe_str rfl))) pa_nil))))), ?_⟩
    refine ⟨_, rfl, w, rfl, hz, _, _, rfl, rfl, _, rfl, ite2 (fun l1 => ?_) (fun l1 => ?_)⟩
    · have := of_decide_eq_true l1
      rw [decide_eq_false (show ¬ (1 ≤ w.length ∧ w.length ≤ 8) by omega)] at q
      exact iteT (q _ (Same.refl H))
    have k1 : 1 ≤ w.length := by
      rcases Nat.lt_or_ge 0 w.length with z | z
      · exact z
      · exact absurd (decide_eq_true (show (w.length : Int) < 1 by omega)) l1
    refine ⟨_, rfl, w, rfl, hz, _, _, rfl, rfl, _, rfl, ite2 (fun l8 => ?_) (fun l8 => ?_)⟩
    · have := of_decide_eq_true l8
      rw [decide_eq_false (show ¬ (1 ≤ w.length ∧ w.length ≤ 8) by omega)] at q
      exact q _ (Same.refl H)
    have k8 : w.length ≤ 8 := by
      rcases Nat.lt_or_ge 8 w.length with z | z
      · exact absurd (decide_eq_true (show (w.length : Int) > 8 by omega)) l8
      · exact z
    rw [decide_eq_true (show 1 ≤ w.length ∧ w.length ≤ 8 from ⟨k1, k8⟩), Bool.true_and] at q
    refine ⟨_, rfl, w, rfl, Nat.le_trans k8 (by decide), fun L hL => ?_⟩
    have e1 := Same.upd (o := .lst (w.cps.toList.map fun c => V.str ⟨#[c]⟩)) (Same.refl H) hL
    have hL1 : upd H L (.lst (w.cps.toList.map fun c => V.str ⟨#[c]⟩)) L = some (.lst ((cd w).map fun c => V.str ⟨#[c]⟩)) := upd_same
    generalize upd H L (.lst (w.cps.toList.map fun c => V.str ⟨#[c]⟩)) = G at *
    have hcl : (cd w).length ≤ 8 := by rw [← cd_len]; exact k8
    refine ⟨L, rfl, ⟨_, SqL.of hL1⟩, fun D hD => ?_⟩
    refine lc_f (walk_list (K := K) (a := L) (xs := (cd w).map fun c => V.str ⟨#[c]⟩)) (fun j => (cd w)[j]?.map fun c => .bool (azB c)) (by rw [List.length_map]; omega) hD (fun H' e' => SqL.of (e' _ _ hL1)) ?_ ?_
    · rintro j y Ha Hb Nx Ny hj ea ⟨rfl, hy⟩ k1 k2
      rw [List.getElem?_map] at hy
      obtain ⟨c, hc, rfl⟩ := Option.map_eq_some_iff.mp hy
      refine ⟨rfl, tYes_if ?_⟩
      refine ⟨_, rfl, c, abc, rfl, rfl, ?_⟩
      have e1 : decide (c ∈ abc.cps.toList) = azB c := decide_eq_decide.mpr (abc_mem c)
      rw [e1]
      exact k1 _ _ _ (by rw [hc]; rfl) (.bl _) (Same.refl _)
    rintro acc G3 hD3 hT3 hal e3
    rw [List.length_map, range_map] at hT3
    have hacc : acc = ((cd w).map azB).map V.bl := by
      refine TdAll.bls_inv (H := G3) ?_
      rw [List.map_map]
      exact hT3
    subst hacc
    refine ⟨D, _, rfl, SqL.of hD3, ?_⟩
    rw [show (((cd w).map azB).all id) = (cd w).all azB by rw [List.all_map]; rfl]
    exact q _ (e1.trans e3)
end My
namespace My
open PySem L2
def spLPa : Sp := fun vs H Q _ => ∃ (l : Str), vs = [.str l] ∧ l.length ≤ 1000 ∧ (stepTB (Txt.split l " ") = false → ∀ H', Same H H' → Q .non H') ∧ (stepTB (Txt.split l " ") = true → ∀ v H', Td H' v (stepOf (Txt.split l " ")).d → Same H H' → Q v H')
theorem nameB_str {x : Str} (h : nameB (.str x) = true) : Nm x := by
  obtain ⟨y, e, hy⟩ := nameB_inv h
  cases e
  exact hy
theorem ok_law_part {P : Program} {w : World} {K : PySem.W.Frag} {mg : Str → Option Value} {base : Heap} {CS CP XCarryError XNoSchema XNoStep XNoText XNoKept XMissing XNoColumn XNoFlag XNoKey XNoRow XNoStops XNoStrokes XNoTable XNotClosed XNothingBegun XNotSafe XNotSame XRefused XTaken XT_MISSING_WORDS XT_COLUMN_STEPS : Addr} (T : Txt K mg CS CP XCarryError XNoSchema XNoStep XNoText XNoKept XMissing XNoColumn XNoFlag XNoKey XNoRow XNoStops XNoStrokes XNoTable XNotClosed XNothingBegun XNotSafe XNotSame XRefused XTaken XT_MISSING_WORDS XT_COLUMN_STEPS) : CallOk P w K mg base 2 "_law_part" spLPa := by
  have c_law_is_name := ok_law_is_name (P := P) (w := w) (base := base) T
  refine T.d_law_part.ok sc_law_part (fun vs H Q E h => ?_) (fun f cdv A outer s H vs Q E hr h => ?_)
  · obtain ⟨l, rfl, _⟩ := h
    rfl
  · obtain ⟨l, rfl, hl, qn, q⟩ := h
    refine ⟨_, (pss_cons (ps_set (i := 1) sc_law_part.nd rfl (by first | exact Or.inl rfl | exact Or.inr rfl) (pe_split (pv 0) pe_str))
      (pss_cons (ps_if (PW.pt (pw_or (pt_cmpR op_lt (pe_callB (kLen (K := K)) (by rfl) T.n_len PySem.boot_len (pa_cons (pv 1) pa_nil)) pe_int (nomark _)) (pw_or1 (pt_not (pt_val (pe_callC c_law_is_name (hr.mono (by decide)) (pa_cons (pe_ix (kIxL (K := K)) (pv 1) pe_int (fun _ _ => rfl)) pa_nil))))))) (pss_one (ps_ret pe_non)) pss_nil)
      (pss_cons (ps_if (PW.pt (pw_and (pt_cmpR op_eq (pe_ix (kIxL (K := K)) (pv 1) pe_int (fun _ _ => rfl)) pe_str (nomark _)) (pw_and1 (pt_cmpR (kIn (K := K)) (pe_ix (kIxL (K := K)) (pv 1) pe_int (fun _ _ => rfl)) (pe_tup (pa_cons pe_str (pa_cons pe_str (pa_cons pe_str pa_nil)))) rfl)))) (pss_cons (ps_if (pt_cmpR op_eq (pe_callB (kLen (K := K)) (by rfl) T.n_len PySem.boot_len (pa_cons (pv 1) pa_nil)) pe_int (nomark _)) (pss_one (ps_ret (pe_tup (pa_cons pe_str (pa_cons (pe_ix (kIxL (K := K)) (pv 1) pe_int (fun _ _ => rfl)) (pa_cons (pe_ix (kIxL (K := K)) (pv 1) pe_int (fun _ _ => rfl)) (pa_cons pe_bl pa_nil))))))) pss_nil)
        (pss_cons (ps_if (PW.pt (pw_and (pt_cmpR op_eq (pe_callB (kLen (K := K)) (by rfl) T.n_len PySem.boot_len (pa_cons (pv 1) pa_nil)) pe_int (nomark _)) (pw_and1 (pt_cmpR op_eq (pe_ix (kIxL (K := K)) (pv 1) pe_int (fun _ _ => rfl)) pe_str (nomark _))))) (pss_one (ps_ret (pe_tup (pa_cons pe_str (pa_cons (pe_ix (kIxL (K := K)) (pv 1) pe_int (fun _ _ => rfl)) (pa_cons (pe_ix (kIxL (K := K)) (pv 1) pe_int (fun _ _ => rfl)) (pa_cons pe_bl pa_nil))))))) pss_nil)
        (pss_one (ps_ret pe_non)))) pss_nil)
      (pss_cons (ps_if (PW.pt (pw_and (pt_cmpR (kIn (K := K)) (pe_ix (kIxL (K := K)) (pv 1) pe_int (fun _ _ => rfl)) (pe_tup (pa_cons pe_str (pa_cons pe_str (pa_cons pe_str pa_nil)))) rfl) (pw_and (pt_cmpR op_eq (pe_callB (kLen (K := K)) (by rfl) T.n_len PySem.boot_len (pa_cons (pv 1) pa_nil)) pe_int (nomark _)) (pw_and1 (pt_val (pe_callC c_law_is_name (hr.mono (by decide)) (pa_cons (pe_ix (kIxL (K := K)) (pv 1) pe_int (fun _ _ => rfl)) pa_nil))))))) (pss_one (ps_ret (pe_tup (pa_cons (pe_ix (kIxL (K := K)) (pv 1) pe_int (fun _ _ => rfl)) (pa_cons (pe_ix (kIxL (K := K)) (pv 1) pe_int (fun _ _ => rfl)) (pa_cons (pe_ix (kIxL (K := K)) (pv 1) pe_int (fun _ _ => rfl)) pa_nil)))))) pss_nil)
      (pss_one (ps_ret pe_non)))))), ?_⟩
    have hnum := part_num (x := l) sep_space
    have hw : ∀ w ∈ Txt.split l " ", w.length ≤ 1000 := fun w hw => Nat.le_trans (part_len sep_space hw) hl
    refine ⟨_, rfl, ⟨_, rfl⟩, l, _, rfl, rfl, sep_space.len, sizeL (by omega), fun W hW => ?_⟩
    generalize Txt.split l " " = ws at *
    have e0 := Same.upd (o := .lst (ws.map V.str)) (Same.refl H) hW
    have hW1 : upd H W (.lst (ws.map V.str)) W = some (.lst (ws.map V.str)) := upd_same
    generalize upd H W (.lst (ws.map V.str)) = G0 at *
    by_cases h2 : ws.length < 3
    · have hf : stepTB ws = false := by
        match ws, h2 with
        | [], _ => rfl
        | [_], _ => rfl
        | [_, _], _ => rfl
      refine ⟨_, rfl, W, _, rfl, .inl (SqL.of hW1), _, _, rfl, rfl, _, rfl, ite2 (fun c => iteT (qn hf _ e0)) (fun c => absurd (decide_eq_true (by rw [List.length_map]; omega)) c)⟩
    obtain ⟨w, n, m, r, rfl⟩ : ∃ w n m r, ws = w :: n :: m :: r := by
      match ws, h2 with
      | [], h => exact absurd (by decide) h
      | [_], h => exact absurd (by simp) h
      | [_, _], h => exact absurd (by simp) h
      | w :: n :: m :: r, _ => exact ⟨w, n, m, r, rfl⟩
    refine ⟨_, rfl, W, _, rfl, .inl (SqL.of hW1), _, _, rfl, rfl, _, rfl, ite2 (fun c => ?_) (fun c => ?_)⟩
    · exfalso
      have := of_decide_eq_true c
      rw [List.length_map, List.length_cons, List.length_cons, List.length_cons] at this
      omega
    have hld : loadTB (w :: n :: m :: r) = (decide (w = "load") && (decide (r = [] ∨ r = [("match" : Str)]) && (nameB (.str n) && decide (m ∈ [("raw" : Str), "blank", "refuse"])))) := rfl
    have hcd : ∀ u, r = u → colTB (w :: n :: m :: u) = match u with
      | [] => (decide (w ∈ [("patch" : Str), "fill", "sweep"]) && (nameB (.str n) && nameB (.str m)))
      | _ => false := fun u _ => by cases u <;> rfl
    have hsb : stepTB (w :: n :: m :: r) = (loadTB (w :: n :: m :: r) || colTB (w :: n :: m :: r)) := rfl
    refine ⟨_, rfl, W, _, _, _, rfl, rfl, SqL.of hW1, atI_nat (j := 1) rfl, n, rfl, hw n (by simp), fun H1 e1 => ⟨_, rfl, ite2 (fun c => ?_) (fun c => ?_)⟩⟩
    · refine qn ?_ _ (e0.trans e1)
      have hn : nameB (.str n) = false := by simpa using c
      rw [hsb, hld, hn]
      cases r <;> simp [colTB, hn]
    have hn : nameB (.str n) = true := by simpa using c
    have hWa := e1 _ _ hW1
    have e01 := e0.trans e1
    by_cases hwl : w = "load"
    · subst hwl
      have hnc : colTB (("load" : Str) :: n :: m :: r) = false := by
        rw [hcd r rfl]
        cases r with
        | nil =>
          show (decide (("load" : Str) ∈ [("patch" : Str), "fill", "sweep"]) && _) = false
          rw [decide_eq_false (by decide +kernel), Bool.false_and]
        | cons _ _ => rfl
      rw [hsb, hnc, Bool.or_false, hld, decide_eq_true rfl, Bool.true_and, hn, Bool.true_and] at q qn
      refine ⟨_, rfl, W, _, _, _, rfl, rfl, SqL.of hWa, atI_nat (j := 0) rfl, rfl, _, rfl, ?_⟩
      rw [decide_eq_true rfl]
      refine iteT ?_
      refine ⟨_, rfl, W, _, _, _, rfl, rfl, SqL.of hWa, atI_nat (j := 2) rfl, sizeL (by show 3 ≤ 100000; decide), fun t ht => ?_⟩
      have e2 := Same.upd (o := .tup [.str "raw", .str "blank", .str "refuse"]) (Same.refl H1) ht
      have ht1 : upd H1 t (.tup [.str "raw", .str "blank", .str "refuse"]) t = some (.tup ([("raw" : Str), "blank", "refuse"].map V.str)) := upd_same
      generalize upd H1 t (.tup [.str "raw", .str "blank", .str "refuse"]) = G1 at *
      have hW2 := e2 _ _ hWa
      have e02 := e01.trans e2
      refine ⟨t, _, rfl, .inr (SqT.of ht1), rfl, flat_strs _, _, rfl, ?_⟩
      have hin : ∀ (x : Str) (ys : List Str), (if false = true then !inV (.str x) (ys.map V.str) else inV (.str x) (ys.map V.str)) = decide (x ∈ ys) := fun x ys => (if_neg (by decide)).trans (inV_strs _ _)
      show if (if false = true then !inV (.str m) ([("raw" : Str), "blank", "refuse"].map V.str) else inV (.str m) ([("raw" : Str), "blank", "refuse"].map V.str)) = true then _ else _
      rw [hin]
      by_cases hm : m ∈ [("raw" : Str), "blank", "refuse"]
      case neg =>
        rw [decide_eq_false hm, Bool.and_false] at qn
        rw [decide_eq_false hm]
        refine iteF ?_
        refine ⟨_, rfl, W, _, _, _, rfl, rfl, SqL.of hW2, atI_nat (j := 0) rfl, sizeL (by show 3 ≤ 100000; decide), fun t2 ht2 => ?_⟩
        have e3 := Same.upd (o := .tup [.str "patch", .str "fill", .str "sweep"]) (Same.refl G1) ht2
        have ht3 : upd G1 t2 (.tup [.str "patch", .str "fill", .str "sweep"]) t2 = some (.tup ([("patch" : Str), "fill", "sweep"].map V.str)) := upd_same
        generalize upd G1 t2 (.tup [.str "patch", .str "fill", .str "sweep"]) = G2 at *
        refine ⟨t2, _, rfl, .inr (SqT.of ht3), rfl, flat_strs _, _, rfl, ?_⟩
        show if (if false = true then !inV (.str "load") ([("patch" : Str), "fill", "sweep"].map V.str) else inV (.str "load") ([("patch" : Str), "fill", "sweep"].map V.str)) = true then _ else _
        rw [hin, decide_eq_false (by decide +kernel)]
        exact iteF (qn rfl _ (e02.trans e3))
      rw [decide_eq_true hm, Bool.and_true] at q qn
      rw [decide_eq_true hm]
      refine iteT ?_
      rw [stepOf_load] at q
      refine ⟨_, rfl, W, _, rfl, .inl (SqL.of hW2), rfl, _, rfl, ?_⟩
      match r, hnum, hw, q, qn, hW2 with
      | [], hnum, hw, q, qn, hW2 =>
        refine iteT ?_
        refine ⟨_, rfl, W, _, _, _, rfl, rfl, SqL.of hW2, atI_nat (j := 1) rfl, _, rfl, W, _, _, _, rfl, rfl, SqL.of hW2, atI_nat (j := 2) rfl, sizeL (by show 4 ≤ 100000; decide), fun u hu => ?_⟩
        exact q (by simp) _ _ (.tup upd_same (.cons (.str _) (.cons (.str _) (.cons (.str _) (.cons (.bl _) .nil))))) (e02.trans (Same.upd (Same.refl G1) hu))
      | [x], hnum, hw, q, qn, hW2 =>
        refine iteF ?_
        refine ⟨_, rfl, W, _, rfl, .inl (SqL.of hW2), rfl, _, rfl, iteT ?_⟩
        refine ⟨_, rfl, W, _, _, _, rfl, rfl, SqL.of hW2, atI_nat (j := 3) rfl, rfl, _, rfl, ?_⟩
        by_cases hx : x = "match"
        · subst hx
          rw [decide_eq_true rfl]
          refine iteT ?_
          refine ⟨_, rfl, W, _, _, _, rfl, rfl, SqL.of hW2, atI_nat (j := 1) rfl, _, rfl, W, _, _, _, rfl, rfl, SqL.of hW2, atI_nat (j := 2) rfl, sizeL (by show 4 ≤ 100000; decide), fun u hu => ?_⟩
          exact q (by simp) _ _ (.tup upd_same (.cons (.str _) (.cons (.str _) (.cons (.str _) (.cons (.bl _) .nil))))) (e02.trans (Same.upd (Same.refl G1) hu))
        · rw [decide_eq_false (fun z => hx (V.str.inj z))]
          exact iteF (qn (by simp [hx]) _ e02)
      | x :: y :: r, hnum, hw, q, qn, hW2 =>
        have h3 : ¬ V.int ((((("load" : Str) :: n :: m :: x :: y :: r).map V.str).length : Nat) : Int) = V.int 3 := fun z => by
          have := V.int.inj z
          rw [List.length_map] at this
          simp only [List.length_cons] at this
          omega
        have h4 : ¬ V.int ((((("load" : Str) :: n :: m :: x :: y :: r).map V.str).length : Nat) : Int) = V.int 4 := fun z => by
          have := V.int.inj z
          rw [List.length_map] at this
          simp only [List.length_cons] at this
          omega
        rw [decide_eq_false h3]
        refine iteF ?_
        refine ⟨_, rfl, W, _, rfl, .inl (SqL.of hW2), rfl, _, rfl, ?_⟩
        rw [decide_eq_false h4]
        exact iteF (qn (by simp) _ e02)
    have hin : ∀ (x : Str) (ys : List Str), (if false = true then !inV (.str x) (ys.map V.str) else inV (.str x) (ys.map V.str)) = decide (x ∈ ys) := fun x ys => (if_neg (by decide)).trans (inV_strs _ _)
    rw [hsb, hld, decide_eq_false hwl, Bool.false_and, Bool.false_or] at q qn
    have hso : stepOf (w :: n :: m :: r) = .col w n m := if_neg hwl
    rw [hso] at q
    refine ⟨_, rfl, W, _, _, _, rfl, rfl, SqL.of hWa, atI_nat (j := 0) rfl, rfl, _, rfl, ?_⟩
    rw [decide_eq_false (fun z => hwl (V.str.inj z))]
    refine iteF ?_
    refine ⟨_, rfl, W, _, _, _, rfl, rfl, SqL.of hWa, atI_nat (j := 0) rfl, sizeL (by show 3 ≤ 100000; decide), fun t ht => ?_⟩
    have e2 := Same.upd (o := .tup [.str "patch", .str "fill", .str "sweep"]) (Same.refl H1) ht
    have ht1 : upd H1 t (.tup [.str "patch", .str "fill", .str "sweep"]) t = some (.tup ([("patch" : Str), "fill", "sweep"].map V.str)) := upd_same
    generalize upd H1 t (.tup [.str "patch", .str "fill", .str "sweep"]) = G1 at *
    have hW2 := e2 _ _ hWa
    have e02 := e01.trans e2
    refine ⟨t, _, rfl, .inr (SqT.of ht1), rfl, flat_strs _, _, rfl, ?_⟩
    show if (if false = true then !inV (.str w) ([("patch" : Str), "fill", "sweep"].map V.str) else inV (.str w) ([("patch" : Str), "fill", "sweep"].map V.str)) = true then _ else _
    rw [hin]
    rw [hcd r rfl] at q qn
    by_cases hwc : w ∈ [("patch" : Str), "fill", "sweep"]
    case neg =>
      rw [decide_eq_false hwc]
      refine iteF (qn ?_ _ e02)
      cases r
      · show (decide (w ∈ [("patch" : Str), "fill", "sweep"]) && _) = false
        rw [decide_eq_false hwc, Bool.false_and]
      · rfl
    rw [decide_eq_true hwc]
    refine iteT ?_
    refine ⟨_, rfl, W, _, rfl, .inl (SqL.of hW2), rfl, _, rfl, ?_⟩
    cases r with
    | cons x r =>
      have h3 : ¬ V.int ((((w :: n :: m :: x :: r).map V.str).length : Nat) : Int) = V.int 3 := fun z => by
        have := V.int.inj z
        rw [List.length_map] at this
        simp only [List.length_cons] at this
        omega
      rw [decide_eq_false h3]
      exact iteF (qn rfl _ e02)
    | nil =>
      refine iteT ?_
      have hv : (decide (w ∈ [("patch" : Str), "fill", "sweep"]) && (nameB (.str n) && nameB (.str m))) = nameB (.str m) := by
        rw [decide_eq_true hwc, hn, Bool.true_and, Bool.true_and]
      have qn : nameB (.str m) = false → ∀ H', Same H H' → Q .non H' := fun z => qn (hv.trans z)
      have q : nameB (.str m) = true → ∀ v H', Td H' v (Step.col w n m).d → Same H H' → Q v H' := fun z => q (hv.trans z)
      refine ⟨_, rfl, W, _, _, _, rfl, rfl, SqL.of hW2, atI_nat (j := 2) rfl, m, rfl, hw m (by simp), fun H3 e3 => ⟨_, rfl, ite2 (fun k => ?_) (fun k => ?_)⟩⟩
      · have hW3 := e3 _ _ hW2
        refine ⟨_, rfl, W, _, _, _, rfl, rfl, SqL.of hW3, atI_nat (j := 0) rfl, _, rfl, W, _, _, _, rfl, rfl, SqL.of hW3, atI_nat (j := 1) rfl, _, rfl, W, _, _, _, rfl, rfl, SqL.of hW3, atI_nat (j := 2) rfl, sizeL (by show 3 ≤ 100000; decide), fun u hu => ?_⟩
        exact q k _ _ (.tup upd_same (.cons (.str _) (.cons (.str _) (.cons (.str _) .nil)))) ((e02.trans e3).trans (Same.upd (Same.refl H3) hu))
      · exact qn (by simpa using k) _ (e02.trans e3)
end My
namespace My
open PySem L2
def spOthers (D D2 : Addr) : SpE := fun a c d vs H Q _ => vs = [.ref a] ∧ (c = .ref D ∨ c = .ref D2) ∧ ExD d H ∧ ∀ H', Same H H' → Q (.bl false) H'
theorem ok_law_others {P : Program} {w : World} {K : PySem.W.Frag} {mg : Str → Option Value} {base : Heap} {CS CP XCarryError XNoSchema XNoStep XNoText XNoKept XMissing XNoColumn XNoFlag XNoKey XNoRow XNoStops XNoStrokes XNoTable XNotClosed XNothingBegun XNotSafe XNotSame XRefused XTaken XT_MISSING_WORDS XT_COLUMN_STEPS : Addr} (T : Txt K mg CS CP XCarryError XNoSchema XNoStep XNoText XNoKept XMissing XNoColumn XNoFlag XNoKey XNoRow XNoStops XNoStrokes XNoTable XNotClosed XNothingBegun XNotSafe XNotSame XRefused XTaken XT_MISSING_WORDS XT_COLUMN_STEPS) : CallE P w K mg base 1 "_law_others" (spOthers XNoText XNoStep) := by
  refine T.d_law_others.okE sc_law_others (fun a c d vs H Q E h => ?_) (fun f cdv A outer s H vs Q E p c d hz hf hr h => ?_)
  · obtain ⟨rfl, _⟩ := h
    rfl
  · obtain ⟨rfl, hc, hd, q⟩ := h
    refine ⟨_, (pss_cons (ps_if (pt_val (pe_callB (kIsPT (K := K) List.mem_cons_self hz hf) (by rfl) T.n_isinstance (by decide +kernel) (pa_cons (pv 0) (pa_cons (pe_tup (pa_cons (pe_glob (v := .ref XMissing) rfl T.m_Missing rfl) (pa_cons (pe_glob (v := .ref XNoColumn) rfl T.m_NoColumn rfl) (pa_cons (pe_glob (v := .ref XNoFlag) rfl T.m_NoFlag rfl) (pa_cons (pe_glob (v := .ref XNoKept) rfl T.e_NoKept.mg rfl) (pa_cons (pe_glob (v := .ref XNoKey) rfl T.m_NoKey rfl) (pa_cons (pe_glob (v := .ref XNoRow) rfl T.m_NoRow rfl) (pa_cons (pe_glob (v := .ref XNoSchema) rfl T.e_NoSchema.mg rfl) (pa_cons (pe_glob (v := .ref XNoStops) rfl T.m_NoStops rfl) (pa_cons (pe_glob (v := .ref XNoStrokes) rfl T.m_NoStrokes rfl) (pa_cons (pe_glob (v := .ref XNoTable) rfl T.m_NoTable rfl) pa_nil))))))))))) pa_nil)))) (pss_one (ps_ret pe_bl)) pss_nil)
      (pss_one (ps_ret (pe_callB (kIsPT (K := K) List.mem_cons_self hz hf) (by rfl) T.n_isinstance (by decide +kernel) (pa_cons (pv 0) (pa_cons (pe_tup (pa_cons (pe_glob (v := .ref XNotClosed) rfl T.m_NotClosed rfl) (pa_cons (pe_glob (v := .ref XNothingBegun) rfl T.m_NothingBegun rfl) (pa_cons (pe_glob (v := .ref XNotSafe) rfl T.m_NotSafe rfl) (pa_cons (pe_glob (v := .ref XNotSame) rfl T.m_NotSame rfl) (pa_cons (pe_glob (v := .ref XRefused) rfl T.m_Refused rfl) (pa_cons (pe_glob (v := .ref XTaken) rfl T.m_Taken rfl) pa_nil))))))) pa_nil)))))), ?_⟩
    have nf : ∀ {b r : Bool}, b = false → b = true → r = true := fun h1 h2 => by rw [h1] at h2; cases h2
    rcases hc with rfl | rfl
    · refine ⟨_, rfl, sizeL (by show 10 ≤ 100000; decide), fun u hu => ⟨_, _, _, _, false, rfl, rfl, T.xc_NoText, hd.same (Same.upd (Same.refl _) hu), upd_same, (.cons (.own _) (.cons (.own _) (.cons (.own _) (.cons (.own _) (.cons (.own _) (.cons (.own _) (.cons (.own _) (.cons (.own _) (.cons (.own _) (.cons (.own _) .nil)))))))))), kitAny_cons T.o_NoText_Missing (fun _ => kitAny_cons T.o_NoText_NoColumn (fun _ => kitAny_cons T.o_NoText_NoFlag (fun _ => kitAny_cons T.o_NoText_NoKept (fun _ => kitAny_cons T.o_NoText_NoKey (fun _ => kitAny_cons T.o_NoText_NoRow (fun _ => kitAny_cons T.o_NoText_NoSchema (fun _ => kitAny_cons T.o_NoText_NoStops (fun _ => kitAny_cons T.o_NoText_NoStrokes (fun _ => kitAny_cons T.o_NoText_NoTable (fun _ => kitAny_nil) (nf rfl)) (nf rfl)) (nf rfl)) (nf rfl)) (nf rfl)) (nf rfl)) (nf rfl)) (nf rfl)) (nf rfl)) (nf rfl), false, rfl, iteF ?_⟩⟩
      have t1 := Same.upd (o := .tup [.ref XMissing, .ref XNoColumn, .ref XNoFlag, .ref XNoKept, .ref XNoKey, .ref XNoRow, .ref XNoSchema, .ref XNoStops, .ref XNoStrokes, .ref XNoTable]) (Same.refl H) hu
      refine ⟨_, rfl, sizeL (by show 6 ≤ 100000; decide), fun w hw => ⟨_, _, _, _, false, rfl, rfl, T.xc_NoText, (hd.same t1).same (Same.upd (Same.refl _) hw), upd_same, (.cons (.own _) (.cons (.own _) (.cons (.own _) (.cons (.own _) (.cons (.own _) (.cons (.own _) .nil)))))), kitAny_cons T.o_NoText_NotClosed (fun _ => kitAny_cons T.o_NoText_NothingBegun (fun _ => kitAny_cons T.o_NoText_NotSafe (fun _ => kitAny_cons T.o_NoText_NotSame (fun _ => kitAny_cons T.o_NoText_Refused (fun _ => kitAny_cons T.o_NoText_Taken (fun _ => kitAny_nil) (nf rfl)) (nf rfl)) (nf rfl)) (nf rfl)) (nf rfl)) (nf rfl), ?_⟩⟩
      exact q _ (Same.upd t1 (t1.free hw))
    · refine ⟨_, rfl, sizeL (by show 10 ≤ 100000; decide), fun u hu => ⟨_, _, _, _, false, rfl, rfl, T.xc_NoStep, hd.same (Same.upd (Same.refl _) hu), upd_same, (.cons (.own _) (.cons (.own _) (.cons (.own _) (.cons (.own _) (.cons (.own _) (.cons (.own _) (.cons (.own _) (.cons (.own _) (.cons (.own _) (.cons (.own _) .nil)))))))))), kitAny_cons T.o_NoStep_Missing (fun _ => kitAny_cons T.o_NoStep_NoColumn (fun _ => kitAny_cons T.o_NoStep_NoFlag (fun _ => kitAny_cons T.o_NoStep_NoKept (fun _ => kitAny_cons T.o_NoStep_NoKey (fun _ => kitAny_cons T.o_NoStep_NoRow (fun _ => kitAny_cons T.o_NoStep_NoSchema (fun _ => kitAny_cons T.o_NoStep_NoStops (fun _ => kitAny_cons T.o_NoStep_NoStrokes (fun _ => kitAny_cons T.o_NoStep_NoTable (fun _ => kitAny_nil) (nf rfl)) (nf rfl)) (nf rfl)) (nf rfl)) (nf rfl)) (nf rfl)) (nf rfl)) (nf rfl)) (nf rfl)) (nf rfl), false, rfl, iteF ?_⟩⟩
      have t1 := Same.upd (o := .tup [.ref XMissing, .ref XNoColumn, .ref XNoFlag, .ref XNoKept, .ref XNoKey, .ref XNoRow, .ref XNoSchema, .ref XNoStops, .ref XNoStrokes, .ref XNoTable]) (Same.refl H) hu
      refine ⟨_, rfl, sizeL (by show 6 ≤ 100000; decide), fun w hw => ⟨_, _, _, _, false, rfl, rfl, T.xc_NoStep, (hd.same t1).same (Same.upd (Same.refl _) hw), upd_same, (.cons (.own _) (.cons (.own _) (.cons (.own _) (.cons (.own _) (.cons (.own _) (.cons (.own _) .nil)))))), kitAny_cons T.o_NoStep_NotClosed (fun _ => kitAny_cons T.o_NoStep_NothingBegun (fun _ => kitAny_cons T.o_NoStep_NotSafe (fun _ => kitAny_cons T.o_NoStep_NotSame (fun _ => kitAny_cons T.o_NoStep_Refused (fun _ => kitAny_cons T.o_NoStep_Taken (fun _ => kitAny_nil) (nf rfl)) (nf rfl)) (nf rfl)) (nf rfl)) (nf rfl)) (nf rfl), ?_⟩⟩
      exact q _ (Same.upd t1 (t1.free hw))
end My
namespace My
open PySem L2
def fiveD (a b : PyData) : List PyData := [a, b, .bool true, .bool true, .bool false]
def dueP (pl : Plan) : PyData → List PyData
  | .str x => match badS x with
    | some i => fiveD (.str "text") (.int (i : Nat))
    | none => match badAt pl 0 ((stsOf x).map Step.d) with
      | some i => fiveD (.str "step") (.int (i : Nat))
      | none => [.str "read", .tuple ((stsOf x).map Step.d), .bool (kpOf x)]
  | _ => fiveD (.str "text") (.int 0)
theorem dueP_no {pl : Plan} {d : PyData} (h : isStrD d = false) : dueP pl d = fiveD (.str "text") (.int 0) := by
  cases d with
  | str x => cases h
  | _ => rfl
theorem dueP_part {pl : Plan} {x : Str} {i : Nat} (h : badS x = some i) : dueP pl (.str x) = fiveD (.str "text") (.int (i : Nat)) := by
  show (match badS x with
    | some i => fiveD (.str "text") (.int (i : Nat))
    | none => _) = _
  rw [h]
theorem dueP_step {pl : Plan} {x : Str} {i : Nat} (h : badS x = none) (t : badAt pl 0 ((stsOf x).map Step.d) = some i) : dueP pl (.str x) = fiveD (.str "step") (.int (i : Nat)) := by
  show (match badS x with
    | some i => fiveD (.str "text") (.int (i : Nat))
    | none => match badAt pl 0 ((stsOf x).map Step.d) with
      | some i => fiveD (.str "step") (.int (i : Nat))
      | none => _) = _
  rw [h, t]
theorem dueP_read {pl : Plan} {x : Str} (h : badS x = none) (t : badAt pl 0 ((stsOf x).map Step.d) = none) : dueP pl (.str x) = [.str "read", .tuple ((stsOf x).map Step.d), .bool (kpOf x)] := by
  show (match badS x with
    | some i => fiveD (.str "text") (.int (i : Nat))
    | none => match badAt pl 0 ((stsOf x).map Step.d) with
      | some i => fiveD (.str "step") (.int (i : Nat))
      | none => _) = _
  rw [h, t]
theorem lit_fine (z : Str) (h : ((cd z).all fun c => decide (c < 0x110000)) = true) : Fine 1 (.str z) := Fine.str fun c hc => of_decide_eq_true (List.all_eq_true.mp h c hc)
theorem five_fine {a b : PyData} (ha : Fine 1 a) (hb : Fine 1 b) : Fine 2 (.list (fiveD a b)) := Fine.lst (n := 1) fun d hd => by
  simp only [fiveD, List.mem_cons, List.not_mem_nil, or_false] at hd
  rcases hd with rfl | rfl | rfl | rfl | rfl
  · exact ha
  · exact hb
  · exact Fine.bool _
  · exact Fine.bool _
  · exact Fine.bool _
theorem text_fine : Fine 1 (.str "text") := lit_fine _ (by decide +kernel)
theorem step_fine : Fine 1 (.str "step") := lit_fine _ (by decide +kernel)
theorem nil_fine : Fine 1 (.list []) := (Fine.lst (n := 0) (by simp)).up (by decide)
def Fit (d : PyData) : Prop := ∀ x, d = .str x → x.length ≤ 20000 ∧ (∀ p ∈ Txt.split x "; ", p.length ≤ 1000) ∧ ∀ c ∈ cd x, c < 0x110000
def spTold (CS : Addr) : Sp := fun vs H Q _ => ∃ (f : Addr) (v : V) (pl : Plan) (d : PyData), vs = [.ref f, v] ∧ SchAt CS H f pl ∧ Th H v d ∧ Fit d ∧ ∀ a H' xs, H a = none → H' a = some (.lst xs) → TdAll H' xs (dueP pl d) → Same H H' → Q (.ref a) H'
theorem ok_law_told {P : Program} {w : World} {K : PySem.W.Frag} {mg : Str → Option Value} {base : Heap} {CS CP XCarryError XNoSchema XNoStep XNoText XNoKept XMissing XNoColumn XNoFlag XNoKey XNoRow XNoStops XNoStrokes XNoTable XNotClosed XNothingBegun XNotSafe XNotSame XRefused XTaken XT_MISSING_WORDS XT_COLUMN_STEPS : Addr} (T : Txt K mg CS CP XCarryError XNoSchema XNoStep XNoText XNoKept XMissing XNoColumn XNoFlag XNoKey XNoRow XNoStops XNoStrokes XNoTable XNotClosed XNothingBegun XNotSafe XNotSame XRefused XTaken XT_MISSING_WORDS XT_COLUMN_STEPS) : CallOk P w K mg base 11 "_law_told" (spTold CS) := by
  have c_Script_kept := ok_Script_kept (P := P) (w := w) (base := base) T
  have c_Script_steps := ok_Script_steps (P := P) (w := w) (base := base) T
  have c_law_others := ok_law_others (P := P) (w := w) (base := base) T
  have c_read_script := ok_read_script (P := P) (w := w) (base := base) T
  refine T.d_law_told.ok sc_law_told (fun vs H Q E h => ?_) (fun f cdv A outer s H vs Q E hr h => ?_)
  · obtain ⟨f, v, pl, d, rfl, _⟩ := h
    rfl
  · obtain ⟨fr, v, pl, d, rfl, SF, hT, hs, q⟩ := h
    refine ⟨_, (pss_cons (ps_set (i := 2) sc_law_told.nd rfl (by first | exact Or.inl rfl | exact Or.inr rfl) (pe_lst pa_nil))
      (pss_cons (ps_set (i := 3) sc_law_told.nd rfl (by first | exact Or.inl rfl | exact Or.inr rfl) pe_non)
      (pss_cons (ps_tryM sc_law_told.nd rfl rfl takes0 (fun W pn xe tk po => (pss_one (ps_set (i := 3) sc_law_told.nd rfl (by first | exact Or.inl rfl | exact Or.inr rfl) (pe_callX c_read_script (hr.mono (by decide)) tk (pa_cons (pv 0) (pa_cons (pv 1) pa_nil)))))) (HdsM.named (i := 4) rfl rfl ⟨rfl, by decide, .inl T.e_NoText.mg⟩ (fun a oe cls d pn hz hf => (pss_cons (ps_set (i := 5) sc_law_told.nd rfl (by first | exact Or.inl rfl | exact Or.inr rfl) (pe_or (pe_callE c_law_others (roomS (hr.mono (by decide))) List.mem_cons_self hz hf (pa_cons (pv 4) pa_nil)) (pe_or (pe_callB (kIsP (K := K) List.mem_cons_self hz hf) (by rfl) T.n_isinstance (by decide +kernel) (pa_cons (pv 4) (pa_cons (pe_glob (v := .ref XNoStep) rfl T.e_NoStep.mg rfl) pa_nil))) (pe_one (pe_callB (kIsi (K := K)) (by rfl) T.n_isinstance (by decide +kernel) (pa_cons (pe_xf T.e_NoText.xf (T.e_NoText.no _ (by simp)) hz hf (pv 4)) (pa_cons (pe_bltn (v := .ty "bool") (by rfl) T.n_bool (by decide +kernel) rfl) pa_nil)))))))
        (pss_one (ps_set (i := 2) sc_law_told.nd rfl (by first | exact Or.inl rfl | exact Or.inr rfl) (pe_lst (pa_cons pe_str (pa_cons (pe_xf T.e_NoText.xf (T.e_NoText.no _ (by simp)) hz hf (pv 4)) (pa_cons (pe_callB (kIsP (K := K) List.mem_cons_self hz hf) (by rfl) T.n_isinstance (by decide +kernel) (pa_cons (pv 4) (pa_cons (pe_glob (v := .ref XCarryError) rfl T.b_CarryError.mg rfl) pa_nil))) (pa_cons (pe_callB (kIsP (K := K) List.mem_cons_self hz hf) (by rfl) T.n_isinstance (by decide +kernel) (pa_cons (pv 4) (pa_cons (pe_bltn (v := .ty "ValueError") (by rfl) T.n_ValueError (by decide +kernel) rfl) pa_nil))) (pa_cons (pv 5) pa_nil)))))))))) (HdsM.named (i := 4) rfl rfl ⟨rfl, by decide, .inl T.e_NoStep.mg⟩ (fun a oe cls d pn hz hf => (pss_cons (ps_set (i := 5) sc_law_told.nd rfl (by first | exact Or.inl rfl | exact Or.inr rfl) (pe_or (pe_callE c_law_others (roomS (hr.mono (by decide))) List.mem_cons_self hz hf (pa_cons (pv 4) pa_nil)) (pe_or (pe_callB (kIsP (K := K) List.mem_cons_self hz hf) (by rfl) T.n_isinstance (by decide +kernel) (pa_cons (pv 4) (pa_cons (pe_glob (v := .ref XNoText) rfl T.e_NoText.mg rfl) pa_nil))) (pe_one (pe_callB (kIsi (K := K)) (by rfl) T.n_isinstance (by decide +kernel) (pa_cons (pe_xf T.e_NoStep.xf (T.e_NoStep.no _ (by simp)) hz hf (pv 4)) (pa_cons (pe_bltn (v := .ty "bool") (by rfl) T.n_bool (by decide +kernel) rfl) pa_nil)))))))
        (pss_one (ps_set (i := 2) sc_law_told.nd rfl (by first | exact Or.inl rfl | exact Or.inr rfl) (pe_lst (pa_cons pe_str (pa_cons (pe_xf T.e_NoStep.xf (T.e_NoStep.no _ (by simp)) hz hf (pv 4)) (pa_cons (pe_callB (kIsP (K := K) List.mem_cons_self hz hf) (by rfl) T.n_isinstance (by decide +kernel) (pa_cons (pv 4) (pa_cons (pe_glob (v := .ref XCarryError) rfl T.b_CarryError.mg rfl) pa_nil))) (pa_cons (pe_callB (kIsP (K := K) List.mem_cons_self hz hf) (by rfl) T.n_isinstance (by decide +kernel) (pa_cons (pv 4) (pa_cons (pe_bltn (v := .ty "ValueError") (by rfl) T.n_ValueError (by decide +kernel) rfl) pa_nil))) (pa_cons (pv 5) pa_nil)))))))))) (HdsM.bare ⟨rfl, by decide, .inl T.b_CarryError.mg⟩ (fun a oe cls d pn hz hf => (pss_one (ps_set (i := 2) sc_law_told.nd rfl (by first | exact Or.inl rfl | exact Or.inr rfl) (pe_lst (pa_cons pe_str pa_nil))))) HdsM.nil))))
      (pss_cons (ps_if (pt_cmpR (kNeD (K := K) hr.units) (pv 2) (pe_lst pa_nil) (nomark _)) (pss_one (ps_ret (pv 2))) pss_nil)
      (pss_one (ps_ret (pe_lst (pa_cons pe_str (pa_cons (pe_methC0 (pv 3) c_Script_steps (hr.mono (by decide))) (pa_cons (pe_propC (pv 3) c_Script_kept (hr.mono (by decide))) pa_nil)))))))))), ?_⟩
    refine ⟨sizeL (by show 0 ≤ 100000; decide), fun u hu => ?_⟩
    have t0 := Same.upd (o := .lst []) (Same.refl H) hu
    have hu1 : upd H u (.lst []) u = some (.lst []) := upd_same
    generalize upd H u (.lst []) = G0 at *
    refine ⟨_, rfl, _, rfl, ?_⟩
    try unfold tNil
    show spReadP CP CS XNoText XNoStep [.ref fr, v] G0 _ _
    refine ⟨fr, v, pl, d, rfl, SF.same t0, hT.same t0, hs, fun hf H1 x e1 hx h1x => ?_, fun x' i ed hb H1 x e1 hx h1x => ?_, fun x' i ed hb hr H1 x e1 hx h1x => ?_, fun x ed hb hr p H1 S np e1 => ?_⟩
    · refine ⟨true, T.e_NoText.exm T.s_NoText_NoText, fun _ a ha => ?_, fun z => Bool.noConfusion z⟩
      have xd : ExD (some x) H1 := .inr ⟨x, _, rfl, h1x⟩
      refine ⟨_, rfl, rfl, .inl rfl, xd, fun H2 e2 => ⟨false, rfl, iteF ?_⟩⟩
      have xd2 := xd.same e2
      have h2x := e2 _ _ h1x
      refine ⟨_, rfl, XNoText, _, _, false, rfl, rfl, T.xc_NoText, xd2, .own _, T.o_NoText_NoStep, false, rfl, iteF ?_⟩
      refine ⟨_, rfl, rfl, rfl, x, _, _, rfl, h2x, xd1, _, _, _, _, false, rfl, ClsV.ty "bool", TyX.base (TyOf.int _), kit_ty (by decide +kernel), ?_⟩
      refine ⟨_, rfl, rfl, rfl, x, _, _, rfl, h2x, xd1, _, rfl, XNoText, _, _, true, rfl, rfl, T.xc_NoText, xd2, .own _, T.o_NoText_CarryError, _, rfl, XNoText, _, _, true, rfl, rfl, T.xc_NoText, xd2, .ty "ValueError", T.o_NoText_ValueError, _, rfl, sizeL (by show 5 ≤ 100000; decide), fun L hL => ?_⟩
      have t1 := (t0.trans e1).trans e2
      have r1 := Same.upd (o := .lst [.str "text", .int (0), .bl true, .bl true, .bl false]) (Same.refl H2) hL
      have hL1 : upd H2 L (.lst [.str "text", .int (0), .bl true, .bl true, .bl false]) L = some (.lst [.str "text", .int (0), .bl true, .bl true, .bl false]) := upd_same
      generalize upd H2 L (.lst [.str "text", .int (0), .bl true, .bl true, .bl false]) = G2 at *
      refine ⟨_, rfl, sizeL (by show 0 ≤ 100000; decide), fun m hm => ?_⟩
      have r2 := Same.upd (o := .lst []) (Same.refl G2) hm
      have hm1 : upd G2 m (.lst []) m = some (.lst []) := upd_same
      generalize upd G2 m (.lst []) = G3 at *
      have hL3 := r2 _ _ hL1
      have hT3 : TdAll G3 [.str "text", .int (0), .bl true, .bl true, .bl false] (fiveD (.str "text") (.int (0))) := .cons (.str _) (.cons (.int _) (.cons (.bl _) (.cons (.bl _) (.cons (.bl _) .nil))))
      refine ⟨.list (fiveD (.str "text") (.int (0))), .list [], Dp.lst (SqL.of hL3) hT3.dp, Dp.lst (SqL.of hm1) .nil, (five_fine text_fine (Fine.int _)).sh (by decide), nil_fine.sh (by decide), true, by rw [eqv_lists_nil]; rfl, iteT ?_⟩
      refine ⟨_, rfl, q L _ _ (t1.free hL) hL3 ?_ ((t1.trans r1).trans r2)⟩
      rw [dueP_no hf]
      exact hT3
    · subst ed
      refine ⟨true, T.e_NoText.exm T.s_NoText_NoText, fun _ a ha => ?_, fun z => Bool.noConfusion z⟩
      have xd : ExD (some x) H1 := .inr ⟨x, _, rfl, h1x⟩
      refine ⟨_, rfl, rfl, .inl rfl, xd, fun H2 e2 => ⟨false, rfl, iteF ?_⟩⟩
      have xd2 := xd.same e2
      have h2x := e2 _ _ h1x
      refine ⟨_, rfl, XNoText, _, _, false, rfl, rfl, T.xc_NoText, xd2, .own _, T.o_NoText_NoStep, false, rfl, iteF ?_⟩
      refine ⟨_, rfl, rfl, rfl, x, _, _, rfl, h2x, xd1, _, _, _, _, false, rfl, ClsV.ty "bool", TyX.base (TyOf.int _), kit_ty (by decide +kernel), ?_⟩
      refine ⟨_, rfl, rfl, rfl, x, _, _, rfl, h2x, xd1, _, rfl, XNoText, _, _, true, rfl, rfl, T.xc_NoText, xd2, .own _, T.o_NoText_CarryError, _, rfl, XNoText, _, _, true, rfl, rfl, T.xc_NoText, xd2, .ty "ValueError", T.o_NoText_ValueError, _, rfl, sizeL (by show 5 ≤ 100000; decide), fun L hL => ?_⟩
      have t1 := (t0.trans e1).trans e2
      have r1 := Same.upd (o := .lst [.str "text", .int ((i : Nat)), .bl true, .bl true, .bl false]) (Same.refl H2) hL
      have hL1 : upd H2 L (.lst [.str "text", .int ((i : Nat)), .bl true, .bl true, .bl false]) L = some (.lst [.str "text", .int ((i : Nat)), .bl true, .bl true, .bl false]) := upd_same
      generalize upd H2 L (.lst [.str "text", .int ((i : Nat)), .bl true, .bl true, .bl false]) = G2 at *
      refine ⟨_, rfl, sizeL (by show 0 ≤ 100000; decide), fun m hm => ?_⟩
      have r2 := Same.upd (o := .lst []) (Same.refl G2) hm
      have hm1 : upd G2 m (.lst []) m = some (.lst []) := upd_same
      generalize upd G2 m (.lst []) = G3 at *
      have hL3 := r2 _ _ hL1
      have hT3 : TdAll G3 [.str "text", .int ((i : Nat)), .bl true, .bl true, .bl false] (fiveD (.str "text") (.int ((i : Nat)))) := .cons (.str _) (.cons (.int _) (.cons (.bl _) (.cons (.bl _) (.cons (.bl _) .nil))))
      refine ⟨.list (fiveD (.str "text") (.int ((i : Nat)))), .list [], Dp.lst (SqL.of hL3) hT3.dp, Dp.lst (SqL.of hm1) .nil, (five_fine text_fine (Fine.int _)).sh (by decide), nil_fine.sh (by decide), true, by rw [eqv_lists_nil]; rfl, iteT ?_⟩
      refine ⟨_, rfl, q L _ _ (t1.free hL) hL3 ?_ ((t1.trans r1).trans r2)⟩
      rw [dueP_part hb]
      exact hT3
    · subst ed
      refine ⟨false, T.e_NoText.exm T.s_NoStep_NoText, fun z => Bool.noConfusion z, fun _ => ⟨true, T.e_NoStep.exm T.s_NoStep_NoStep, fun _ a ha => ?_, fun z => Bool.noConfusion z⟩⟩
      have xd : ExD (some x) H1 := .inr ⟨x, _, rfl, h1x⟩
      refine ⟨_, rfl, rfl, .inr rfl, xd, fun H2 e2 => ⟨false, rfl, iteF ?_⟩⟩
      have xd2 := xd.same e2
      have h2x := e2 _ _ h1x
      refine ⟨_, rfl, XNoStep, _, _, false, rfl, rfl, T.xc_NoStep, xd2, .own _, T.o_NoStep_NoText, false, rfl, iteF ?_⟩
      refine ⟨_, rfl, rfl, rfl, x, _, _, rfl, h2x, xd1, _, _, _, _, false, rfl, ClsV.ty "bool", TyX.base (TyOf.int _), kit_ty (by decide +kernel), ?_⟩
      refine ⟨_, rfl, rfl, rfl, x, _, _, rfl, h2x, xd1, _, rfl, XNoStep, _, _, true, rfl, rfl, T.xc_NoStep, xd2, .own _, T.o_NoStep_CarryError, _, rfl, XNoStep, _, _, true, rfl, rfl, T.xc_NoStep, xd2, .ty "ValueError", T.o_NoStep_ValueError, _, rfl, sizeL (by show 5 ≤ 100000; decide), fun L hL => ?_⟩
      have t1 := (t0.trans e1).trans e2
      have r1 := Same.upd (o := .lst [.str "step", .int ((i : Nat)), .bl true, .bl true, .bl false]) (Same.refl H2) hL
      have hL1 : upd H2 L (.lst [.str "step", .int ((i : Nat)), .bl true, .bl true, .bl false]) L = some (.lst [.str "step", .int ((i : Nat)), .bl true, .bl true, .bl false]) := upd_same
      generalize upd H2 L (.lst [.str "step", .int ((i : Nat)), .bl true, .bl true, .bl false]) = G2 at *
      refine ⟨_, rfl, sizeL (by show 0 ≤ 100000; decide), fun m hm => ?_⟩
      have r2 := Same.upd (o := .lst []) (Same.refl G2) hm
      have hm1 : upd G2 m (.lst []) m = some (.lst []) := upd_same
      generalize upd G2 m (.lst []) = G3 at *
      have hL3 := r2 _ _ hL1
      have hT3 : TdAll G3 [.str "step", .int ((i : Nat)), .bl true, .bl true, .bl false] (fiveD (.str "step") (.int ((i : Nat)))) := .cons (.str _) (.cons (.int _) (.cons (.bl _) (.cons (.bl _) (.cons (.bl _) .nil))))
      refine ⟨.list (fiveD (.str "step") (.int ((i : Nat)))), .list [], Dp.lst (SqL.of hL3) hT3.dp, Dp.lst (SqL.of hm1) .nil, (five_fine step_fine (Fine.int _)).sh (by decide), nil_fine.sh (by decide), true, by rw [eqv_lists_nil]; rfl, iteT ?_⟩
      refine ⟨_, rfl, q L _ _ (t1.free hL) hL3 ?_ ((t1.trans r1).trans r2)⟩
      rw [dueP_step hb hr]
      exact hT3
    · subst ed
      have u1 := e1 _ _ hu1
      refine ⟨_, rfl, sizeL (by show 0 ≤ 100000; decide), fun m hm => ?_⟩
      have r1 := Same.upd (o := .lst []) (Same.refl H1) hm
      have hm1 : upd H1 m (.lst []) m = some (.lst []) := upd_same
      generalize upd H1 m (.lst []) = G2 at *
      refine ⟨.list [], .list [], Dp.lst (SqL.of (r1 _ _ u1)) .nil, Dp.lst (SqL.of hm1) .nil, nil_fine.sh (by decide), nil_fine.sh (by decide), false, by rw [eqv_lists_nil]; rfl, iteF ?_⟩
      have S2 := S.same r1
      obtain ⟨dx, sp, tv, h1, h2, h3⟩ := S2.ex
      refine ⟨_, rfl, p, dx, _, rfl, h1, cFlds_no _ _ _ (by decide +kernel) (by decide +kernel) (by decide +kernel), p, pl, _, _, rfl, S2, fun w hw => ?_⟩
      refine ⟨_, rfl, p, dx, _, rfl, h1, p, pl, _, _, rfl, S2, sizeL (by show 3 ≤ 100000; decide), fun L hL => ?_⟩
      have t1 := (t0.trans e1).trans r1
      have r2 := Same.upd (o := .lst [.str "read", w, .bl (kpOf x)]) (Same.refl G2) hL
      refine q L _ [.str "read", w, .bl (kpOf x)] (t1.free hL) upd_same ?_ (t1.trans r2)
      rw [dueP_read hb hr]
      exact .cons (.str _) (.cons (hw.kt_same r2) (.cons (.bl _) .nil))
end My
namespace My
open PySem L2
def eleven : List Str := ["load", "raw", "blank", "refuse", "match", "patch", "fill", "sweep", "kept", "lost", ""]
def Cods (w : Str) : Prop := ∀ c ∈ cd w, c < 0x110000
theorem Clean.cods {w : Str} (h : Clean w) : Cods w := fun c hc => (h c hc).1
theorem Cods.part {x y p : Str} (s : Sep y) (h : Cods x) (hp : p ∈ Txt.split x y) : Cods p := fun c hc => h c (part_in s hp c hc)
theorem Cods.join {y : Str} (hy : Cods y) {ws : List Str} (h : ∀ w ∈ ws, Cods w) : Cods (Txt.join y ws) := fun c hc => by
  rcases mem_join (show c ∈ TL.tl (Txt.join y ws) from hc) with m | ⟨w, hw, m⟩
  · exact hy c m
  · exact h w hw c m
theorem cods_space : Cods " " := clean_space.cods
def WdX (w : Str) : Prop := w.length ≤ 8 ∧ Cods w
theorem eleven_ok : ∀ w ∈ eleven, WdX w := by
  have go : ∀ w : Str, decide (w.length ≤ 8) = true → ((cd w).all fun c => decide (c < 0x110000) && !decide (c = 10)) = true → WdX w := fun w h1 h2 => ⟨of_decide_eq_true h1, (clean_lit h2).cods⟩
  intro w hw
  simp only [eleven, List.mem_cons, List.not_mem_nil, or_false] at hw
  rcases hw with rfl | rfl | rfl | rfl | rfl | rfl | rfl | rfl | rfl | rfl | rfl <;> exact go _ (by decide +kernel) (by decide +kernel)
def spLWo : Sp := fun vs H Q _ => ∃ (a : Addr) (tv : V) (pl : Plan) (n : Nat), vs = [.ref a, tv] ∧ Td H tv (planD pl) ∧ Good pl ∧ StAt H a (n + 1) ∧ ∀ (w : Str) H', WdX w → StAt H' a n → Fr1 a H H' → Q (.str w) H'
theorem ok_law_word {P : Program} {w : World} {K : PySem.W.Frag} {mg : Str → Option Value} {base : Heap} {CS CP XCarryError XNoSchema XNoStep XNoText XNoKept XMissing XNoColumn XNoFlag XNoKey XNoRow XNoStops XNoStrokes XNoTable XNotClosed XNothingBegun XNotSafe XNotSame XRefused XTaken XT_MISSING_WORDS XT_COLUMN_STEPS : Addr} (T : Txt K mg CS CP XCarryError XNoSchema XNoStep XNoText XNoKept XMissing XNoColumn XNoFlag XNoKey XNoRow XNoStops XNoStrokes XNoTable XNotClosed XNothingBegun XNotSafe XNotSame XRefused XTaken XT_MISSING_WORDS XT_COLUMN_STEPS) : CallOk P w K mg base 2 "_law_word" spLWo := by
  have c_law_draw := ok_law_draw (P := P) (w := w) (base := base) T
  refine T.d_law_word.ok sc_law_word (fun vs H Q E h => ?_) (fun f cdv A outer s H vs Q E hr h => ?_)
  · obtain ⟨a, tv, pl, n, rfl, _⟩ := h
    rfl
  · obtain ⟨a, tv, pl, n, rfl, hT, g, hS, q⟩ := h
    obtain ⟨t, xs, rfl, ht, hx⟩ := hT.tup_inv
    have hlx : xs.length = pl.length := by rw [hx.length, List.length_map]
    have hhi := g.hi
    refine ⟨_, (pss_cons (ps_set (i := 2) sc_law_word.nd rfl (by first | exact Or.inl rfl | exact Or.inr rfl) (pe_lst (pa_cons pe_str (pa_cons pe_str (pa_cons pe_str (pa_cons pe_str (pa_cons pe_str (pa_cons pe_str (pa_cons pe_str (pa_cons pe_str (pa_cons pe_str (pa_cons pe_str (pa_cons pe_str pa_nil)))))))))))))
      (pss_cons (ps_for PassesOwn.never rfl (kPiT (K := K) (pv 1)) (kPgT (K := K) (n := 3) rfl (pgs_cons (pg_name (i := 3) sc_law_word.nd rfl (by first | exact Or.inl rfl | exact Or.inr rfl)) (pgs_cons (pg_name (i := 4) sc_law_word.nd rfl (by first | exact Or.inl rfl | exact Or.inr rfl)) (pgs_cons (pg_name (i := 5) sc_law_word.nd rfl (by first | exact Or.inl rfl | exact Or.inr rfl)) pgs_nil))))
      (pss_cons (ps_expr (pe_bm PySem.F.plainAttrs_list PySem.F.slot_list_append PySem.F.type_list_append mt_append (pv 2) (pa_cons (pv 3) pa_nil)))
          (pss_one (ps_expr (pe_bm PySem.F.plainAttrs_list PySem.F.slot_list_extend PySem.F.type_list_extend mt_extend (pv 2) (pa_cons (pe_lc (own := [("column", 6), ("other", 7)]) rfl sc_law_word.nd (kPiT (K := K) (pv 5)) (blkOk_by (N := ["store", "tables", "words", "name", "unique", "references", "column", "other"]) (sc := defScope s_law_word) (own := [("column", 6), ("other", 7)]) (by decide +kernel)) (fun _ _ _ _ _ => (kPgT (K := K) (n := 2) rfl (pgs_cons (pg_name (i := 6) sc_law_word.nd rfl (by first | exact Or.inl rfl | exact Or.inr rfl)) (pgs_cons (pg_name (i := 7) sc_law_word.nd rfl (by first | exact Or.inl rfl | exact Or.inr rfl)) pgs_nil)))) (fun _ _ _ _ _ => pts_nil) (fun _ _ _ _ _ => (pv 6))) pa_nil))))))
      (pss_one (ps_ret (pe_ix (kIxL (K := K)) (pv 2) (pe_callC c_law_draw (hr.mono (by decide)) (pa_cons (pv 0) (pa_cons (pe_callB (kLen (K := K)) (by rfl) T.n_len PySem.boot_len (pa_cons (pv 2) pa_nil)) pa_nil))) (fun _ _ => rfl)))))), ?_⟩
    refine ⟨sizeL (by show 11 ≤ 100000; decide), fun W hW => ?_⟩
    have e0 := Same.upd (o := .lst (eleven.map V.str)) (Same.refl H) hW
    have hW0 : upd H W (.lst (eleven.map V.str)) W = some (.lst (eleven.map V.str)) := upd_same
    have hS0 := hS.same e0
    have ht0 := e0 _ _ ht
    have hx0 := hx.mono (KT.of e0)
    have nWa : W ≠ a := (hS.ne hW).symm
    refine ⟨_, rfl, t, rfl, ⟨_, SqT.of ht0⟩, for_tup (K := K) (a := t) (xs := xs) (fun i σ Hi => ∃ (o3 o4 o5 : Option V) (ws : List Str), σ = [some (.ref a), some (.ref t), some (.ref W), o3, o4, o5, none, none] ∧ Hi W = some (.lst (ws.map V.str)) ∧ (∀ w ∈ ws, WdX w) ∧ 0 < ws.length ∧ ws.length ≤ 11 + 4 * i ∧ Same H Hi) ?_ ?_ ?_ ?_⟩
    · exact ⟨_, _, _, eleven, rfl, hW0, eleven_ok, by decide, by decide, e0⟩
    · rintro i σ Hi _ ⟨_, _, _, _, _, _, _, _, _, e⟩
      exact SqT.of (e _ _ ht)
    · rintro i y σ Hi hy ⟨o3, o4, o5, ws, rfl, hWi, hok, hpos, hlen, ei⟩
      have hil : i < pl.length := by have := (List.getElem?_eq_some_iff.mp hy).1; omega
      obtain ⟨e, he, hTd⟩ := (hx.mono (KT.of ei)).getM hy
      have hem := List.mem_of_getElem? he
      obtain ⟨tn, tr, rs, rfl, htn, htr, hrs⟩ := entD_inv hTd
      have hlr : rs.length = e.2.2.length := by rw [hrs.length, List.length_map]
      have hr3 := (g.refs e hem).len
      refine ⟨tn, _, rfl, SqT.of htn, rfl, _, _, rfl, _, _, rfl, _, _, rfl, rfl, ?_⟩
      refine ⟨_, rfl, .inl ⟨rfl, _, SqL.of hWi⟩, _, rfl, W, _, _, rfl, rfl, hWi, sizeLt (by rw [List.length_map]; omega), ?_⟩
      have hW1 : upd Hi W (.lst (ws.map V.str ++ [.str e.1])) W = some (.lst ((ws ++ [e.1]).map V.str)) := by rw [upd_same, List.map_append]; rfl
      have k1 : KT Hi (upd Hi W (.lst (ws.map V.str ++ [.str e.1]))) := (KT.refl Hi).updL hWi
      have e1 : Same H (upd Hi W (.lst (ws.map V.str ++ [.str e.1]))) := fun c o hc => by
        rw [upd_ne (ne_of_none hc hW)]
        exact ei _ _ hc
      have htr1 := k1 _ _ htr
      have hrs1 := hrs.mono k1
      generalize upd Hi W (.lst (ws.map V.str ++ [.str e.1])) = J1 at *
      refine ⟨_, rfl, .inl ⟨rfl, _, SqL.of hW1⟩, ?_⟩
      refine ⟨_, rfl, tr, rfl, ⟨_, SqT.of htr1⟩, fun D hD => ?_⟩
      refine lc_f (walk_tup (K := K) (a := tr) (xs := rs)) (fun j => e.2.2[j]?.map fun r : Ref => .str r.1) (by omega) hD (fun H' e' => SqT.of (e' _ _ htr1)) ?_ ?_
      · rintro j y Ha Hb Nx Ny hj ea ⟨rfl, hy⟩ q1 q2
        obtain ⟨r, hr, hTr⟩ := (hrs1.mono (KT.of ea)).getM hy
        obtain ⟨tt, rfl, htt⟩ := refD_inv hTr
        refine ⟨tt, _, rfl, SqT.of htt, rfl, _, _, rfl, _, _, rfl, rfl, rfl, tYes_if ?_⟩
        exact ⟨_, rfl, q1 _ _ _ (by rw [hr]; rfl) (.str _) (Same.refl _)⟩
      rintro acc G3 hD3 hT3 hal e3
      rw [hlr, range_map] at hT3
      have hacc : acc = (e.2.2.map (·.1)).map V.str := by
        refine TdAll.strs_inv (H := G3) ?_
        rw [List.map_map]
        exact hT3
      subst hacc
      have hW3 := e3 _ _ hW1
      refine ⟨W, D, _, _, rfl, rfl, hW3, hD3, sizeL (by rw [List.length_map, List.length_map, List.length_map, List.length_append, List.length_singleton]; omega), ?_⟩
      refine ⟨_, _, _, ws ++ [e.1] ++ e.2.2.map (·.1), rfl, by rw [upd_same, List.map_append (l₂ := e.2.2.map (·.1))], fun w hw => ?_, by rw [List.length_append, List.length_append, List.length_singleton]; omega, by rw [List.length_append, List.length_append, List.length_singleton, List.length_map]; omega, fun c o hc => ?_⟩
      · rcases List.mem_append.mp hw with h | h
        · rcases List.mem_append.mp h with h | h
          · exact hok w h
          · rw [List.mem_singleton.mp h]
            exact ⟨(g.nm e hem).hi, (g.nm e hem).clean.cods⟩
        · obtain ⟨r, hr, rfl⟩ := List.mem_map.mp h
          exact ⟨(g.two hem r hr).1.hi, (g.two hem r hr).1.clean.cods⟩
      · rw [upd_ne (ne_of_none hc hW)]
        exact e3 _ _ (e1 _ _ hc)
    · rintro σ Hi ⟨o3, o4, o5, ws, rfl, hWi, hok, hpos, hlen, ei⟩
      have hSi := hS.same ei
      have bg : (10000 : Int) < 2 ^ 200 := by decide
      refine ⟨_, rfl, _, rfl, _, rfl, W, _, rfl, .inl (SqL.of hWi), a, _, n, rfl, by rw [List.length_map]; omega, by rw [List.length_map]; omega, hSi, fun z J z0 z1 hSJ f => ?_⟩
      rw [List.length_map] at z1
      obtain ⟨j, rfl⟩ : ∃ j : Nat, z = (j : Int) := ⟨z.toNat, by omega⟩
      have hj : j < ws.length := by omega
      refine ⟨W, _, _, .str ws[j], rfl, rfl, SqL.of (f _ _ nWa hWi), atI_nat (by rw [List.getElem?_map, List.getElem?_eq_getElem hj]; rfl), ?_⟩
      exact q _ _ (hok _ (List.getElem_mem hj)) hSJ ((Fr1.of ei).trans f)
end My
namespace My
open PySem L2
theorem sl_toN (ws : List Str) (k : Nat) : cutV (ws.map V.str) none (some (k : Int)) = (ws.take k).map V.str := by
  rw [cutV_strs, cutL_to]
theorem sl_frN (ws : List Str) (k : Nat) : cutV (ws.map V.str) (some (k : Int)) none = (ws.drop k).map V.str := by
  rw [cutV_strs, cutL_from]
theorem sl_frS (ws : List Str) (k : Nat) : cutV (ws.map V.str) (some ((k : Int) + 1)) none = (ws.drop (k + 1)).map V.str := sl_frN ws (k + 1)
theorem ixN_of {n k : Nat} (h : k < n) : ixN n (k : Int) = some k := by
  unfold ixN
  simp [h]
def spWS : Sp := fun vs H Q _ => ∃ (a : Addr) (tv : V) (pl : Plan) (l : Str) (n : Nat), vs = [.ref a, tv, .str l] ∧ Td H tv (planD pl) ∧ Good pl ∧ StAt H a (n + 3) ∧ l.length ≤ 600 ∧ Cods l ∧ ∀ (y : Str) H', y.length ≤ 2 * l.length + 20 → Cods y → StAt H' a n → Fr1 a H H' → Q (.str y) H'
theorem ok_law_words_spoilt {P : Program} {w : World} {K : PySem.W.Frag} {mg : Str → Option Value} {base : Heap} {CS CP XCarryError XNoSchema XNoStep XNoText XNoKept XMissing XNoColumn XNoFlag XNoKey XNoRow XNoStops XNoStrokes XNoTable XNotClosed XNothingBegun XNotSafe XNotSame XRefused XTaken XT_MISSING_WORDS XT_COLUMN_STEPS : Addr} (T : Txt K mg CS CP XCarryError XNoSchema XNoStep XNoText XNoKept XMissing XNoColumn XNoFlag XNoKey XNoRow XNoStops XNoStrokes XNoTable XNotClosed XNothingBegun XNotSafe XNotSame XRefused XTaken XT_MISSING_WORDS XT_COLUMN_STEPS) : CallOk P w K mg base 3 "_law_words_spoilt" spWS := by
  have c_law_draw := ok_law_draw (P := P) (w := w) (base := base) T
  have c_law_word := ok_law_word (P := P) (w := w) (base := base) T
  refine T.d_law_words_spoilt.ok sc_law_words_spoilt (fun vs H Q E h => ?_) (fun f cdv A outer s H vs Q E hr h => ?_)
  · obtain ⟨a, tv, pl, l, n, rfl, _⟩ := h
    rfl
  · obtain ⟨a, tv, pl, l, n, rfl, hTv, g, hS, hl, hc, q⟩ := h
    refine ⟨_, (pss_cons (ps_set (i := 3) sc_law_words_spoilt.nd rfl (by first | exact Or.inl rfl | exact Or.inr rfl) (pe_split (pv 2) pe_str))
      (pss_cons (ps_set (i := 4) sc_law_words_spoilt.nd rfl (by first | exact Or.inl rfl | exact Or.inr rfl) (pe_callC c_law_draw (hr.mono (by decide)) (pa_cons (pv 0) (pa_cons (pe_callB (kLen (K := K)) (by rfl) T.n_len PySem.boot_len (pa_cons (pv 3) pa_nil)) pa_nil))))
      (pss_cons (ps_set (i := 5) sc_law_words_spoilt.nd rfl (by first | exact Or.inl rfl | exact Or.inr rfl) (pe_callC c_law_draw (hr.mono (by decide)) (pa_cons (pv 0) (pa_cons pe_int pa_nil))))
      (Evl.pss_cut (ps_if (pt_cmpR op_eq (pv 5) pe_int (nomark _)) (pss_one (ps_set (i := 3) sc_law_words_spoilt.nd rfl (by first | exact Or.inl rfl | exact Or.inr rfl) (pe_op op_cat (pe_op op_cat (pe_slice sl_list (pv 3) po_none (po_some (pv 4))) (pe_lst (pa_cons (pe_ix (kIxL (K := K)) (pv 3) (pv 4) (fun _ _ => rfl)) pa_nil))) (pe_slice sl_list (pv 3) (po_some (pv 4)) po_none)))) (pss_one (ps_if (pt_cmpR op_eq (pv 5) pe_int (nomark _)) (pss_one (ps_set (i := 3) sc_law_words_spoilt.nd rfl (by first | exact Or.inl rfl | exact Or.inr rfl) (pe_op op_cat (pe_slice sl_list (pv 3) po_none (po_some (pv 4))) (pe_slice sl_list (pv 3) (po_some (pe_op op_add (pv 4) pe_int)) po_none)))) (pss_one (ps_if (pt_cmpR op_eq (pv 5) pe_int (nomark _)) (pss_one (ps_set (i := 3) sc_law_words_spoilt.nd rfl (by first | exact Or.inl rfl | exact Or.inr rfl) (pe_op op_cat (pe_slice sl_list (pv 3) (po_some (pv 4)) po_none) (pe_slice sl_list (pv 3) po_none (po_some (pv 4)))))) (pss_one (ps_if (pt_cmpR op_eq (pv 5) pe_int (nomark _)) (pss_one (ps_expr (pe_bm PySem.F.plainAttrs_list PySem.F.slot_list_append PySem.F.type_list_append mt_append (pv 3) (pa_cons (pe_callC c_law_word (hr.mono (by decide)) (pa_cons (pv 0) (pa_cons (pv 1) pa_nil))) pa_nil)))) (pss_one (ps_asg (pe_callC c_law_word (hr.mono (by decide)) (pa_cons (pv 0) (pa_cons (pv 1) pa_nil))) (pg_sub (pv 3) (pv 4) set_list))))))))))
      (pss_one (ps_ret (pe_join pe_str (pv 3)))))))), ?_⟩
    have hnum := part_num (x := l) sep_space
    have hpos := part_pos (x := l) sep_space
    have hcl : ∀ w ∈ Txt.split l " ", Cods w := fun w hw => hc.part sep_space hw
    have hwt := one_space.wt (x := l)
    refine ⟨_, rfl, ⟨_, rfl⟩, l, _, rfl, rfl, sep_space.len, sizeL (by omega), fun W hW => ?_⟩
    generalize Txt.split l " " = ws at *
    have nWa : W ≠ a := (hS.ne hW).symm
    have hS0 := hS.upd (o := .lst (ws.map V.str)) nWa.symm
    have e0 : Fr1 a H (upd H W (.lst (ws.map V.str))) := Fr1.of (Same.upd (Same.refl H) hW)
    have hW0 : upd H W (.lst (ws.map V.str)) W = some (.lst (ws.map V.str)) := upd_same
    generalize upd H W (.lst (ws.map V.str)) = G0 at *
    have hlen : 0 < ws.length := List.length_pos_iff.mpr hpos
    have hln : (ws.map V.str).length = ws.length := List.length_map _
    have big : ((ws.length : Nat) : Int) < 2 ^ 200 := by
      have h2 : (10000 : Int) < 2 ^ 200 := by decide
      omega
    refine ⟨_, rfl, _, rfl, W, _, rfl, .inl (SqL.of hW0), a, _, n + 2, rfl, by omega, by rw [hln]; exact big, hS0.mono (by omega), fun at_ G1 a0 a1 hS1 f1 => ?_⟩
    have hW1 := f1 _ _ nWa hW0
    refine ⟨_, rfl, a, 5, n + 1, rfl, by decide, by decide, hS1.mono (by omega), fun way G3 w0 w1 hS3 f3 => ?_⟩
    have hW3 := f3 _ _ nWa hW1
    have e3 := (e0.trans f1).trans f3
    obtain ⟨sts, hsts⟩ := hS.lst
    have hT3 : Td G3 tv (planD pl) := hTv.mono (e3.kt hsts)
    obtain ⟨i, rfl⟩ : ∃ i : Nat, at_ = (i : Int) := ⟨at_.toNat, by omega⟩
    have hi : i < ws.length := by omega
    have hai : ((ws.map V.str)[i]?) = some (.str ws[i]) := by rw [List.getElem?_map, List.getElem?_eq_getElem hi]; rfl
    have hci := hcl _ (List.getElem_mem hi)
    have htk := wt_cut ws i
    have hdr := wt_at hi
    have hmi := wt_mem (List.getElem_mem hi)
    refine ⟨fun σ' H' => ∃ (W' : Addr) (ws' : List Str), σ' = [some (.ref a), some tv, some (.str l), some (.ref W'), some (.int i), some (.int way)] ∧ H' W' = some (.lst (ws'.map V.str)) ∧ (∀ w ∈ ws', Cods w) ∧ wt ws' ≤ 2 * l.length + 20 ∧ StAt H' a n ∧ Fr1 a H H', ?_, ?_⟩
    · refine ⟨_, rfl, rfl, _, rfl, ite2 (fun c0 => ?_) (fun c0 => ?_)⟩
      · refine ⟨_, rfl, _, rfl, _, rfl, W, _, rfl, SqL.of hW3, fun X1 hX1 => ?_⟩
        rw [sl_toN]
        have t1 := Same.upd (o := .lst ((ws.take i).map V.str)) (Same.refl G3) hX1
        have x1 : upd G3 X1 (.lst ((ws.take i).map V.str)) X1 = some (.lst ((ws.take i).map V.str)) := upd_same
        generalize upd G3 X1 (.lst ((ws.take i).map V.str)) = J1 at *
        refine ⟨_, rfl, _, rfl, W, _, _, _, rfl, rfl, SqL.of (t1 _ _ hW3), atI_nat hai, sizeL (by show 1 ≤ 100000; decide), fun X2 hX2 => ?_⟩
        have t2 := Same.upd (o := .lst [.str ws[i]]) (Same.refl J1) hX2
        have x2 : upd J1 X2 (.lst [.str ws[i]]) X2 = some (.lst [.str ws[i]]) := upd_same
        have x12 := t2 _ _ x1
        generalize upd J1 X2 (.lst [.str ws[i]]) = J2 at *
        refine ⟨X1, X2, _, _, rfl, rfl, x12, x2, sizeL (by rw [List.length_map, List.length_take]; show _ + 1 ≤ _; omega), fun X3 hX3 => ?_⟩
        have t3 := Same.upd (o := .lst ((ws.take i).map V.str ++ [.str ws[i]])) (Same.refl J2) hX3
        have x3 : upd J2 X3 (.lst ((ws.take i).map V.str ++ [.str ws[i]])) X3 = some (.lst ((ws.take i).map V.str ++ [.str ws[i]])) := upd_same
        generalize upd J2 X3 (.lst ((ws.take i).map V.str ++ [.str ws[i]])) = J3 at *
        have t13 := (t1.trans t2).trans t3
        refine ⟨_, rfl, _, rfl, _, rfl, W, _, rfl, SqL.of (t13 _ _ hW3), fun X4 hX4 => ?_⟩
        rw [sl_frN]
        have t4 := Same.upd (o := .lst ((ws.drop i).map V.str)) (Same.refl J3) hX4
        have x4 : upd J3 X4 (.lst ((ws.drop i).map V.str)) X4 = some (.lst ((ws.drop i).map V.str)) := upd_same
        have x34 := t4 _ _ x3
        generalize upd J3 X4 (.lst ((ws.drop i).map V.str)) = J4 at *
        refine ⟨X3, X4, _, _, rfl, rfl, x34, x4, sizeL (by rw [List.length_append, List.length_map, List.length_map, List.length_take, List.length_drop, List.length_singleton]; omega), fun X5 hX5 => ?_⟩
        have t5 := t13.trans t4
        refine ⟨X5, ws.take i ++ [ws[i]] ++ ws.drop i, rfl, by rw [upd_same, List.map_append, List.map_append]; rfl, fun w hw => ?_, ?_, ((hS3.same t5).upd (((hS3.same t5).ne hX5))).mono (by omega), e3.trans (Fr1.of (Same.upd t5 (t5.free hX5)))⟩
        · rcases List.mem_append.mp hw with h | h
          · rcases List.mem_append.mp h with h | h
            · exact hcl w (List.mem_of_mem_take h)
            · rw [List.mem_singleton.mp h]; exact hci
          · exact hcl w (List.mem_of_mem_drop h)
        · rw [wt_app, wt_app, wt_one]
          omega
      refine ⟨_, rfl, rfl, _, rfl, ite2 (fun c1 => ?_) (fun c1 => ?_)⟩
      · refine ⟨_, rfl, _, rfl, _, rfl, W, _, rfl, SqL.of hW3, fun X1 hX1 => ?_⟩
        rw [sl_toN]
        have t1 := Same.upd (o := .lst ((ws.take i).map V.str)) (Same.refl G3) hX1
        have x1 : upd G3 X1 (.lst ((ws.take i).map V.str)) X1 = some (.lst ((ws.take i).map V.str)) := upd_same
        generalize upd G3 X1 (.lst ((ws.take i).map V.str)) = J1 at *
        refine ⟨_, rfl, _, rfl, _, _, rfl, rfl, _, rfl, W, _, rfl, SqL.of (t1 _ _ hW3), fun X4 hX4 => ?_⟩
        rw [sl_frS]
        have t4 := Same.upd (o := .lst ((ws.drop (i + 1)).map V.str)) (Same.refl J1) hX4
        have x4 : upd J1 X4 (.lst ((ws.drop (i + 1)).map V.str)) X4 = some (.lst ((ws.drop (i + 1)).map V.str)) := upd_same
        have x14 := t4 _ _ x1
        generalize upd J1 X4 (.lst ((ws.drop (i + 1)).map V.str)) = J4 at *
        refine ⟨X1, X4, _, _, rfl, rfl, x14, x4, sizeL (by rw [List.length_map, List.length_map, List.length_take, List.length_drop]; omega), fun X5 hX5 => ?_⟩
        have t5 := t1.trans t4
        refine ⟨X5, ws.take i ++ ws.drop (i + 1), rfl, by rw [upd_same, List.map_append], fun w hw => ?_, ?_, ((hS3.same t5).upd (((hS3.same t5).ne hX5))).mono (by omega), e3.trans (Fr1.of (Same.upd t5 (t5.free hX5)))⟩
        · rcases List.mem_append.mp hw with h | h
          · exact hcl w (List.mem_of_mem_take h)
          · exact hcl w (List.mem_of_mem_drop h)
        · rw [wt_app]
          omega
      refine ⟨_, rfl, rfl, _, rfl, ite2 (fun c2 => ?_) (fun c2 => ?_)⟩
      · refine ⟨_, rfl, _, rfl, _, rfl, W, _, rfl, SqL.of hW3, fun X1 hX1 => ?_⟩
        rw [sl_frN]
        have t1 := Same.upd (o := .lst ((ws.drop i).map V.str)) (Same.refl G3) hX1
        have x1 : upd G3 X1 (.lst ((ws.drop i).map V.str)) X1 = some (.lst ((ws.drop i).map V.str)) := upd_same
        generalize upd G3 X1 (.lst ((ws.drop i).map V.str)) = J1 at *
        refine ⟨_, rfl, _, rfl, _, rfl, W, _, rfl, SqL.of (t1 _ _ hW3), fun X4 hX4 => ?_⟩
        rw [sl_toN]
        have t4 := Same.upd (o := .lst ((ws.take i).map V.str)) (Same.refl J1) hX4
        have x4 : upd J1 X4 (.lst ((ws.take i).map V.str)) X4 = some (.lst ((ws.take i).map V.str)) := upd_same
        have x14 := t4 _ _ x1
        generalize upd J1 X4 (.lst ((ws.take i).map V.str)) = J4 at *
        refine ⟨X1, X4, _, _, rfl, rfl, x14, x4, sizeL (by rw [List.length_map, List.length_map, List.length_take, List.length_drop]; omega), fun X5 hX5 => ?_⟩
        have t5 := t1.trans t4
        refine ⟨X5, ws.drop i ++ ws.take i, rfl, by rw [upd_same, List.map_append], fun w hw => ?_, ?_, ((hS3.same t5).upd (((hS3.same t5).ne hX5))).mono (by omega), e3.trans (Fr1.of (Same.upd t5 (t5.free hX5)))⟩
        · rcases List.mem_append.mp hw with h | h
          · exact hcl w (List.mem_of_mem_drop h)
          · exact hcl w (List.mem_of_mem_take h)
        · rw [wt_app]
          omega
      refine ⟨_, rfl, rfl, _, rfl, ite2 (fun c3 => ?_) (fun c3 => ?_)⟩
      · refine ⟨_, rfl, .inl ⟨rfl, _, SqL.of hW3⟩, _, rfl, _, rfl, a, tv, pl, n, rfl, hT3, g, hS3.mono (by omega), fun w J1 hw hS4 f4 => ?_⟩
        have hW4 := f4 _ _ nWa hW3
        refine ⟨W, _, _, rfl, rfl, hW4, sizeLt (by rw [hln]; omega), ?_⟩
        refine ⟨W, ws ++ [w], rfl, by rw [upd_same, List.map_append]; rfl, fun v hv => ?_, ?_, hS4.upd nWa.symm, (e3.trans f4).upd hW⟩
        · rcases List.mem_append.mp hv with h | h
          · exact hcl v h
          · rw [List.mem_singleton.mp h]
            exact hw.2
        · have := hw.1
          rw [wt_app, wt_one]
          omega
      refine ⟨_, rfl, _, rfl, a, tv, pl, n, rfl, hT3, g, hS3.mono (by omega), fun w J1 hw hS4 f4 => ?_⟩
      have hW4 := f4 _ _ nWa hW3
      refine ⟨_, rfl, _, rfl, W, _, _, i, rfl, rfl, hW4, by rw [hln]; exact ixN_of hi, ?_⟩
      refine ⟨W, ws.set i w, rfl, by rw [upd_same, List.map_set], fun v hv => ?_, ?_, hS4.upd nWa.symm, (e3.trans f4).upd hW⟩
      · rcases List.mem_or_eq_of_mem_set hv with h | rfl
        · exact hcl v h
        · exact hw.2
      · have h1 := wt_set hi w
        have := hw.1
        omega
    · rintro σ' H' ⟨W', ws', rfl, hW', hcl', hwt', hS', e'⟩
      exact ⟨⟨_, rfl⟩, _, rfl, _, W', ws', rfl, rfl, .inl (SqL.of hW'), by rw [len_space1, Nat.mul_one]; show wt ws' ≤ 16777216; omega, q _ _ (Nat.le_trans (join_wt len_space1 ws') hwt') (cods_space.join hcl') hS' e'⟩
end My
namespace My
open PySem L2
theorem sp2_sum {s t : Nat} : ∀ (n : Nat) (acc l : List Nat), l.length ≤ n → ((sp2 s t acc l).map List.length).sum + 2 * (sp2 s t acc l).length = acc.length + l.length + 2
  | _, acc, [], _ => by
    rw [sp2_nil]
    simp
  | _, acc, [c], _ => by
    rw [sp2_one]
    simp
  | n + 1, acc, c :: d :: r, h => by
    simp only [List.length_cons] at h
    by_cases e : c = s ∧ d = t
    · rw [sp2_hit _ _ e]
      have := sp2_sum (s := s) (t := t) n [] r (by omega)
      simp only [List.map_cons, List.sum_cons, List.length_cons, List.length_nil] at this ⊢
      omega
    · rw [sp2_miss _ _ e]
      have := sp2_sum (s := s) (t := t) n (acc ++ [c]) (d :: r) (by simp only [List.length_cons]; omega)
      rw [List.length_append, List.length_singleton] at this
      simp only [List.length_cons] at this ⊢
      omega
theorem semi_sum (x : Str) : wt (Txt.split x "; ") + (Txt.split x "; ").length = x.length + 2 := by
  have e := semi_sp2 x
  have h := sp2_sum (s := 59) (t := 32) _ [] (TL.tl x) (Nat.le_refl _)
  rw [← e, List.map_map, List.length_map] at h
  have h2 : (Txt.split x "; ").map (List.length ∘ TL.tl) = (Txt.split x "; ").map (·.length) := List.map_congr_left fun p _ => (TL.len_tl p).symm
  rw [h2, ← TL.len_tl] at h
  show ((Txt.split x "; ").map (·.length)).sum + (Txt.split x "; ").length + (Txt.split x "; ").length = _
  simp only [List.length_nil] at h
  omega
theorem join_semi (ws : List Str) : (Txt.join "; " ws).length ≤ wt ws + ws.length := by
  have := join_len "; " ws
  rw [len_semi] at this
  show _ ≤ (ws.map (·.length)).sum + ws.length + ws.length
  omega
theorem cods_semi : Cods "; " := (clean_lit (by decide +kernel) : Clean "; ").cods
theorem cut_topS (z : Str) (i : Nat) : cd (cutS z none (some (i : Int))) = (cd z).take i := cut_top z i
def sgn : Str := " ;\nabcdefghijklmnopqrstuvwxyz0AZ>-,"
theorem sgn_len : sgn.length = 35 := by decide +kernel
theorem sgn_ok : ∀ c ∈ cd sgn, c < 0x110000 := fun c hc => by
  have h : ((cd sgn).all fun c => decide (c < 0x110000)) = true := by decide +kernel
  exact of_decide_eq_true (List.all_eq_true.mp h c hc)
def SpOk (m : Nat) (x y : Str) : Prop := y.length ≤ x.length + 30 * (m + 20) ∧ Parts (2 * m + 20) y ∧ Cods y
def spSpo : Sp := fun vs H Q _ => ∃ (a : Addr) (tv : V) (pl : Plan) (x : Str) (n m : Nat), vs = [.ref a, tv, .str x] ∧ Td H tv (planD pl) ∧ Good pl ∧ StAt H a (n + 10) ∧ x.length ≤ 3000 ∧ Parts m x ∧ m ≤ 100 ∧ Cods x ∧ ∀ (y : Str) H', SpOk m x y → StAt H' a n → Fr1 a H H' → Q (.str y) H'
theorem ok_law_spoilt {P : Program} {w : World} {K : PySem.W.Frag} {mg : Str → Option Value} {base : Heap} {CS CP XCarryError XNoSchema XNoStep XNoText XNoKept XMissing XNoColumn XNoFlag XNoKey XNoRow XNoStops XNoStrokes XNoTable XNotClosed XNothingBegun XNotSafe XNotSame XRefused XTaken XT_MISSING_WORDS XT_COLUMN_STEPS : Addr} (T : Txt K mg CS CP XCarryError XNoSchema XNoStep XNoText XNoKept XMissing XNoColumn XNoFlag XNoKey XNoRow XNoStops XNoStrokes XNoTable XNotClosed XNothingBegun XNotSafe XNotSame XRefused XTaken XT_MISSING_WORDS XT_COLUMN_STEPS) : CallOk P w K mg base 4 "_law_spoilt" spSpo := by
  have c_law_draw := ok_law_draw (P := P) (w := w) (base := base) T
  have c_law_words_spoilt := ok_law_words_spoilt (P := P) (w := w) (base := base) T
  refine T.d_law_spoilt.ok sc_law_spoilt (fun vs H Q E h => ?_) (fun f cdv A outer s H vs Q E hr h => ?_)
  · obtain ⟨a, tv, pl, x, n, m, rfl, _⟩ := h
    rfl
  · obtain ⟨a, tv, pl, x, n, m, rfl, hTv, g, hS, hxl, hxp, hm, hxc, q⟩ := h
    refine ⟨_, (pss_cons (ps_set (i := 3) sc_law_spoilt.nd rfl (by first | exact Or.inl rfl | exact Or.inr rfl) (pe_split (pv 2) pe_str))
      (pss_cons (ps_set (i := 4) sc_law_spoilt.nd rfl (by first | exact Or.inl rfl | exact Or.inr rfl) (pe_callC c_law_draw (hr.mono (by decide)) (pa_cons (pv 0) (pa_cons (pe_callB (kLen (K := K)) (by rfl) T.n_len PySem.boot_len (pa_cons (pv 3) pa_nil)) pa_nil))))
      (pss_cons (ps_set (i := 5) sc_law_spoilt.nd rfl (by first | exact Or.inl rfl | exact Or.inr rfl) (pe_callC c_law_draw (hr.mono (by decide)) (pa_cons (pv 0) (pa_cons (pe_callB (kLen (K := K)) (by rfl) T.n_len PySem.boot_len (pa_cons (pv 3) pa_nil)) pa_nil))))
      (pss_cons (ps_set (i := 6) sc_law_spoilt.nd rfl (by first | exact Or.inl rfl | exact Or.inr rfl) (pe_callC c_law_draw (hr.mono (by decide)) (pa_cons (pv 0) (pa_cons pe_int pa_nil))))
      (pss_cons (ps_if (pt_cmpR op_lt (pv 6) pe_int (nomark _)) (pss_cons (ps_set (i := 4) sc_law_spoilt.nd rfl (by first | exact Or.inl rfl | exact Or.inr rfl) (pe_callC c_law_draw (hr.mono (by decide)) (pa_cons (pv 0) (pa_cons (pe_op op_add (pe_callB call_len_str (by rfl) T.n_len PySem.boot_len (pa_cons (pv 2) pa_nil)) pe_int) pa_nil))))
        (pss_cons (ps_set (i := 8) sc_law_spoilt.nd rfl (by first | exact Or.inl rfl | exact Or.inr rfl) (pe_ix ix_str pe_str (pe_callC c_law_draw (hr.mono (by decide)) (pa_cons (pv 0) (pa_cons pe_int pa_nil))) (fun _ _ => rfl)))
        (pss_one (ps_ret (pe_op op_add_str (pe_ix (kIxL (K := K)) (pe_lst (pa_cons (pe_op op_add_str (pe_slice sl_str (pv 2) po_none (po_some (pv 4))) (pv 8)) (pa_cons (pe_slice sl_str (pv 2) po_none (po_some (pv 4))) (pa_cons (pe_op op_add_str (pe_slice sl_str (pv 2) po_none (po_some (pv 4))) (pv 8)) pa_nil)))) (pv 6) (fun _ _ => rfl)) (pe_slice sl_str (pv 2) (po_some (pe_op op_add (pv 4) (pe_callTy call_int1 (by rfl) T.n_int (by decide +kernel) (pa_cons (pe_cmpR op_gt (pv 6) pe_int (nomark _)) pa_nil)))) po_none)))))) pss_nil)
      (pss_cons (ps_if (pt_cmpR op_lt (pv 6) pe_int (nomark _)) (pss_one (ps_ret (pe_join pe_str (pe_op op_cat (pe_op op_cat (pe_slice sl_list (pv 3) po_none (po_some (pv 4))) (pe_lst (pa_cons (pe_callC c_law_words_spoilt (hr.mono (by decide)) (pa_cons (pv 0) (pa_cons (pv 1) (pa_cons (pe_ix (kIxL (K := K)) (pv 3) (pv 4) (fun _ _ => rfl)) pa_nil)))) pa_nil))) (pe_slice sl_list (pv 3) (po_some (pe_op op_add (pv 4) pe_int)) po_none))))) pss_nil)
      (pss_cons (ps_if (pt_cmpR op_eq (pv 6) pe_int (nomark _)) (pss_one (ps_ret (pe_join pe_str (pe_op op_cat (pe_op op_cat (pe_slice sl_list (pv 3) po_none (po_some (pv 4))) (pe_lst (pa_cons (pe_ix (kIxL (K := K)) (pv 3) (pv 5) (fun _ _ => rfl)) pa_nil))) (pe_slice sl_list (pv 3) (po_some (pv 4)) po_none))))) pss_nil)
      (pss_cons (ps_if (pt_cmpR op_eq (pv 6) pe_int (nomark _)) (pss_one (ps_ret (pe_join pe_str (pe_op op_cat (pe_slice sl_list (pv 3) po_none (po_some (pv 4))) (pe_slice sl_list (pv 3) (po_some (pe_op op_add (pv 4) pe_int)) po_none))))) pss_nil)
      (pss_cons (ps_if (pt_cmpR op_eq (pv 6) pe_int (nomark _)) (pss_one (ps_ret (pe_join pe_str (pe_op op_cat (pe_op op_cat (pe_slice sl_list (pv 3) po_none (po_some (pv 4))) (pe_lst (pa_cons pe_str pa_nil))) (pe_slice sl_list (pv 3) (po_some (pv 4)) po_none))))) pss_nil)
      (pss_cons (ps_set (i := 7) sc_law_spoilt.nd rfl (by first | exact Or.inl rfl | exact Or.inr rfl) (pe_slice sl_list (pv 3) (po_some pe_int) po_none))
      (Evl.pss_cut (ps_if (pt_cmpR (kEqD (K := K) hr.units) (pv 7) (pe_lst pa_nil) (nomark _)) (pss_one (ps_set (i := 7) sc_law_spoilt.nd rfl (by first | exact Or.inl rfl | exact Or.inr rfl) (pv 3))) pss_nil)
      (pss_one (ps_ret (pe_join pe_str (pe_op op_cat (pe_lst (pa_cons (pe_ix (kIxL (K := K)) (pv 3) pe_int (fun _ _ => rfl)) pa_nil)) (pe_lc (own := [("n", 9)]) rfl sc_law_spoilt.nd (pi_range1 (by rfl) T.n_range (pa_cons (pe_op op_add pe_int (pe_callC c_law_draw (hr.mono (by decide)) (pa_cons (pv 0) (pa_cons pe_int pa_nil)))) pa_nil)) (blkOk_by (N := ["store", "tables", "written", "parts", "at", "k", "way", "rest", "sign", "n"]) (sc := defScope s_law_spoilt) (own := [("n", 9)]) (by decide +kernel)) (fun _ _ _ _ _ => (pg_name (i := 9) sc_law_spoilt.nd rfl (by first | exact Or.inl rfl | exact Or.inr rfl))) (fun _ _ _ _ _ => pts_nil) (fun _ _ _ _ _ => (pe_ix (kIxL (K := K)) (pv 7) (pe_op op_mod (pe_callTy call_int1 (by rfl) T.n_int (by decide +kernel) (pa_cons (pv 9) pa_nil)) (pe_callB (kLen (K := K)) (by rfl) T.n_len PySem.boot_len (pa_cons (pv 7) pa_nil))) (fun _ _ => rfl))))))))))))))))))), ?_⟩
    have hpos := part_pos (x := x) sep_semi
    have hcl : ∀ w ∈ Txt.split x "; ", Cods w := fun w hw => hxc.part sep_semi hw
    have hsum := semi_sum x
    have hll : ∀ l ∈ Txt.split x "; ", l.length ≤ m := hxp
    have hpl : ∀ l ∈ Txt.split x "; ", Parts m l := fun l hl => Parts.of_len (hxp l hl)
    have fin0 : ∀ (ws : List Str) H', (∀ w ∈ ws, Cods w ∧ w.length ≤ 2 * m + 20) → wt ws + ws.length ≤ x.length + 30 * (m + 20) → StAt H' a n → Fr1 a H H' → Q (.str (Txt.join "; " ws)) H' := fun ws H' h1 h2 h3 h4 => q _ _ ⟨Nat.le_trans (join_semi ws) h2, Parts.join fun w hw => Parts.of_len (h1 w hw).2, cods_semi.join fun w hw => (h1 w hw).1⟩ h3 h4
    have sgn0 : ∀ (y : Str) (i j : Nat) (s : List Nat) H', s.length ≤ 1 → (∀ c ∈ s, c < 0x110000) → i ≤ j → cd y = (cd x).take i ++ s ++ (cd x).drop j → StAt H' a n → Fr1 a H H' → Q (.str y) H' := fun y i j s H' h1 h2 h3 h4 h5 h6 => by
      refine q _ _ ⟨?_, fun p hp => ?_, fun c hc => ?_⟩ h5 h6
      · rw [cd_len, cd_len, h4]
        simp only [List.length_append, List.length_take, List.length_drop]
        omega
      · have := hxp.sign h1 h4 p hp
        omega
      · rw [h4] at hc
        rcases List.mem_append.mp hc with h | h
        · rcases List.mem_append.mp h with h | h
          · exact hxc c (List.mem_of_mem_take h)
          · exact h2 c h
        · exact hxc c (List.mem_of_mem_drop h)
    refine ⟨_, rfl, ⟨_, rfl⟩, x, _, rfl, rfl, sep_semi.len, sizeL (by omega), fun W hW => ?_⟩
    generalize Txt.split x "; " = ws at *
    have nWa : W ≠ a := (hS.ne hW).symm
    have hS0 := hS.upd (o := .lst (ws.map V.str)) nWa.symm
    have e0 : Fr1 a H (upd H W (.lst (ws.map V.str))) := Fr1.of (Same.upd (Same.refl H) hW)
    have hW0 : upd H W (.lst (ws.map V.str)) W = some (.lst (ws.map V.str)) := upd_same
    generalize upd H W (.lst (ws.map V.str)) = G0 at *
    have hlen : 0 < ws.length := List.length_pos_iff.mpr hpos
    have hln : (ws.map V.str).length = ws.length := List.length_map _
    have bg : (10000 : Int) < 2 ^ 200 := by decide
    have hws : ws.length ≤ 3002 := by omega
    have big : ((ws.length : Nat) : Int) < 2 ^ 200 := by omega
    refine ⟨_, rfl, _, rfl, W, _, rfl, .inl (SqL.of hW0), a, _, n + 9, rfl, by omega, by rw [hln]; exact big, hS0.mono (by omega), fun at_ G1 a0 a1 hS1 f1 => ?_⟩
    have hW1 := f1 _ _ nWa hW0
    refine ⟨_, rfl, _, rfl, W, _, rfl, .inl (SqL.of hW1), a, _, n + 8, rfl, by omega, by rw [hln]; exact big, hS1.mono (by omega), fun k_ G2 k0 k1 hS2 f2 => ?_⟩
    have hW2 := f2 _ _ nWa hW1
    refine ⟨_, rfl, a, 11, n + 7, rfl, by decide, by decide, hS2.mono (by omega), fun way G3 w0 w1 hS3 f3 => ?_⟩
    have hW3 := f3 _ _ nWa hW2
    have e3 := ((e0.trans f1).trans f2).trans f3
    obtain ⟨sts, hsts⟩ := hS.lst
    have hT3 : Td G3 tv (planD pl) := hTv.mono (e3.kt hsts)
    clear hS0 hS1 hS2 hW0 hW1 hW2
    obtain ⟨i, rfl⟩ : ∃ i : Nat, at_ = (i : Int) := ⟨at_.toNat, by omega⟩
    obtain ⟨j, rfl⟩ : ∃ j : Nat, k_ = (j : Int) := ⟨k_.toNat, by omega⟩
    have hi : i < ws.length := by omega
    have hj : j < ws.length := by omega
    have hai : ((ws.map V.str)[i]?) = some (.str ws[i]) := by rw [List.getElem?_map, List.getElem?_eq_getElem hi]; rfl
    have haj : ((ws.map V.str)[j]?) = some (.str ws[j]) := by rw [List.getElem?_map, List.getElem?_eq_getElem hj]; rfl
    have hci := hcl _ (List.getElem_mem hi)
    have hcj := hcl _ (List.getElem_mem hj)
    have hli := hll _ (List.getElem_mem hi)
    have hlj := hll _ (List.getElem_mem hj)
    have htk := wt_cut ws i
    have hdr := wt_at hi
    have hold : ∀ w ∈ ws, Cods w ∧ w.length ≤ 2 * m + 20 := fun w hw => ⟨hcl w hw, by have := hll w hw; omega⟩
    have hsz : ∀ vs : List Str, wt vs + vs.length ≤ x.length + 30 * (m + 20) → (vs.map (·.length)).sum + vs.length * ("; " : Str).length ≤ 16777216 := fun vs h => by
      rw [len_semi]
      have : wt vs = (vs.map (·.length)).sum + vs.length := rfl
      omega
    refine ⟨_, rfl, _, _, rfl, rfl, _, rfl, ite2 (fun c0 => ?_) (fun c0 => ?_)⟩
    · refine ⟨_, rfl, _, rfl, x, rfl, sizeL (by omega), _, _, rfl, rfl, a, _, n + 6, rfl, by omega, by omega, hS3.mono (by omega), fun at2 G4 b0 b1 hS4 f4 => ?_⟩
      obtain ⟨i2, rfl⟩ : ∃ i2 : Nat, at2 = (i2 : Int) := ⟨at2.toNat, by omega⟩
      refine ⟨_, rfl, a, 35, n + 5, rfl, by decide, by decide, hS4.mono (by omega), fun z G5 z0 z1 hS5 f5 => ?_⟩
      obtain ⟨j2, rfl⟩ : ∃ j2 : Nat, z = (j2 : Int) := ⟨z.toNat, by omega⟩
      have hj2 : j2 < (cd sgn).length := by
        rw [← cd_len, sgn_len]
        omega
      have hcs := sgn_ok _ (List.getElem_mem hj2)
      refine ⟨sgn, _, (cd sgn)[j2], rfl, rfl, sizeL (by rw [sgn_len]; decide), atI_nat (List.getElem?_eq_getElem hj2), ?_⟩
      generalize (cd sgn)[j2] = cc at *
      have hx1 : (cutS x none (some ((i2 : Nat) : Int))).length ≤ 3000 := by
        rw [cd_len, cut_topS, List.length_take, ← cd_len]
        omega
      have hsl : (⟨#[cc]⟩ : Str).length = 1 := rfl
      have hz : x.length ≤ sizeLine := sizeL (by omega)
      refine ⟨_, rfl, _, rfl, _, rfl, _, rfl, hz, _, rfl, _, _, rfl, rfl, sizeL (by omega), _, rfl, _, rfl, _, rfl, _, rfl, hz, _, rfl, _, rfl, _, rfl, _, rfl, hz, _, rfl, _, _, rfl, rfl, sizeL (by omega), sizeL (by show 3 ≤ 100000; decide), fun L hL => ?_⟩
      have hL1 : upd G5 L (.lst [.str (cutS x none (some ((i2 : Nat) : Int)) ++ ⟨#[cc]⟩), .str (cutS x none (some ((i2 : Nat) : Int))), .str (cutS x none (some ((i2 : Nat) : Int)) ++ ⟨#[cc]⟩)]) L = some (.lst [.str (cutS x none (some ((i2 : Nat) : Int)) ++ ⟨#[cc]⟩), .str (cutS x none (some ((i2 : Nat) : Int))), .str (cutS x none (some ((i2 : Nat) : Int)) ++ ⟨#[cc]⟩)]) := upd_same
      have hS6 := (hS5.upd (o := .lst [.str (cutS x none (some ((i2 : Nat) : Int)) ++ ⟨#[cc]⟩), .str (cutS x none (some ((i2 : Nat) : Int))), .str (cutS x none (some ((i2 : Nat) : Int)) ++ ⟨#[cc]⟩)]) (hS5.ne hL)).mono (show n ≤ n + 5 by omega)
      have e6 := ((e3.trans f4).trans f5).trans (Fr1.of (Same.upd (o := .lst [.str (cutS x none (some ((i2 : Nat) : Int)) ++ ⟨#[cc]⟩), .str (cutS x none (some ((i2 : Nat) : Int))), .str (cutS x none (some ((i2 : Nat) : Int)) ++ ⟨#[cc]⟩)]) (Same.refl G5) hL))
      generalize upd G5 L (.lst [.str (cutS x none (some ((i2 : Nat) : Int)) ++ ⟨#[cc]⟩), .str (cutS x none (some ((i2 : Nat) : Int))), .str (cutS x none (some ((i2 : Nat) : Int)) ++ ⟨#[cc]⟩)]) = G6 at *
      have tail : ∃ (y : Str) (s : List Nat) (k : Nat), atI ([.str (cutS x none (some ((i2 : Nat) : Int)) ++ ⟨#[cc]⟩), .str (cutS x none (some ((i2 : Nat) : Int))), .str (cutS x none (some ((i2 : Nat) : Int)) ++ ⟨#[cc]⟩)] : List V) way = some (.str y) ∧ cd y = (cd x).take i2 ++ s ∧ s.length ≤ 1 ∧ (∀ c ∈ s, c < 0x110000) ∧ (if decide (way > 0) = true then (1 : Int) else 0) = (k : Int) := by
        have c0 := of_decide_eq_true c0
        have h3 : way = 0 ∨ way = 1 ∨ way = 2 := by omega
        rcases h3 with rfl | rfl | rfl
        · exact ⟨_, [cc], 0, atI_nat (j := 0) rfl, by rw [cd_app, cut_topS], by simp, fun c hc => by rw [List.mem_singleton.mp hc]; exact hcs, rfl⟩
        · exact ⟨_, [], 1, atI_nat (j := 1) rfl, by rw [cut_topS, List.append_nil], by simp, by simp, rfl⟩
        · exact ⟨_, [cc], 1, atI_nat (j := 2) rfl, by rw [cd_app, cut_topS], by simp, fun c hc => by rw [List.mem_singleton.mp hc]; exact hcs, rfl⟩
      obtain ⟨y, sg, k, hy, hyc, hs1, hs2, hk⟩ := tail
      have hyl : y.length ≤ 3002 := by
        rw [cd_len, hyc, List.length_append, List.length_take, ← cd_len]
        omega
      refine ⟨_, rfl, L, _, _, .str y, rfl, rfl, SqL.of hL1, hy, ?_⟩
      refine ⟨_, rfl, _, rfl, _, rfl, _, _, rfl, rfl, .inr ⟨_, rfl, ?_⟩⟩
      have hcut : cd (cutS x (some ((i2 : Int) + (if decide (way > 0) = true then (1 : Int) else 0))) none) = (cd x).drop (i2 + k) := by
        rw [hk]
        exact cut_from x (i2 + k)
      have hcl2 : (cutS x (some ((i2 : Int) + (if decide (way > 0) = true then (1 : Int) else 0))) none).length ≤ 3000 := by
        rw [cd_len, hcut, List.length_drop, ← cd_len]
        omega
      refine ⟨_, _, rfl, rfl, _, rfl, _, rfl, hz, _, _, rfl, rfl, sizeL (Nat.le_trans (Nat.add_le_add hyl hcl2) (by decide)), ?_⟩
      exact sgn0 _ i2 (i2 + k) sg _ hs1 hs2 (Nat.le_add_right _ _) ((cd_app _ _).trans (by rw [hyc]; exact congrArg (((cd x).take i2 ++ sg) ++ ·) hcut)) hS6 e6
    refine ⟨_, rfl, _, _, rfl, rfl, _, rfl, ite2 (fun c1 => ?_) (fun c1 => ?_)⟩
    · refine ⟨⟨_, rfl⟩, _, rfl, _, rfl, _, rfl, W, _, rfl, SqL.of hW3, fun X1 hX1 => ?_⟩
      rw [sl_toN]
      have t1 := Same.upd (o := .lst ((ws.take i).map V.str)) (Same.refl G3) hX1
      have x1 : upd G3 X1 (.lst ((ws.take i).map V.str)) X1 = some (.lst ((ws.take i).map V.str)) := upd_same
      have s1 := hS3.same t1
      generalize upd G3 X1 (.lst ((ws.take i).map V.str)) = J1 at *
      refine ⟨_, rfl, _, rfl, _, rfl, _, rfl, W, _, _, _, rfl, rfl, SqL.of (t1 _ _ hW3), atI_nat hai, a, tv, pl, ws[i], n, rfl, hT3.kt_same t1, g, s1.mono (by omega), by omega, hci, fun y J2 hyl hyc s2 g2 => ⟨sizeL (by show 1 ≤ 100000; decide), fun X2 hX2 => ?_⟩⟩
      have nX1 : X1 ≠ a := (hS3.ne hX1).symm
      have hWJ := g2 _ _ nWa (t1 _ _ hW3)
      have x1' := g2 _ _ nX1 x1
      have t2 := Same.upd (o := .lst [.str y]) (Same.refl J2) hX2
      have x2 : upd J2 X2 (.lst [.str y]) X2 = some (.lst [.str y]) := upd_same
      have x12 := t2 _ _ x1'
      have s3 := s2.same t2
      generalize upd J2 X2 (.lst [.str y]) = J3 at *
      refine ⟨X1, X2, _, _, rfl, rfl, x12, x2, sizeL (by rw [List.length_map, List.length_take]; show _ + 1 ≤ _; omega), fun X3 hX3 => ?_⟩
      have t3 := Same.upd (o := .lst ((ws.take i).map V.str ++ [.str y])) (Same.refl J3) hX3
      have x3 : upd J3 X3 (.lst ((ws.take i).map V.str ++ [.str y])) X3 = some (.lst ((ws.take i).map V.str ++ [.str y])) := upd_same
      have s4 := s3.same t3
      generalize upd J3 X3 (.lst ((ws.take i).map V.str ++ [.str y])) = J4 at *
      have t23 := t2.trans t3
      refine ⟨_, rfl, _, rfl, _, _, rfl, rfl, _, rfl, W, _, rfl, SqL.of (t23 _ _ hWJ), fun X4 hX4 => ?_⟩
      rw [sl_frS]
      have t4 := Same.upd (o := .lst ((ws.drop (i + 1)).map V.str)) (Same.refl J4) hX4
      have x4 : upd J4 X4 (.lst ((ws.drop (i + 1)).map V.str)) X4 = some (.lst ((ws.drop (i + 1)).map V.str)) := upd_same
      have x34 := t4 _ _ x3
      have s5 := s4.same t4
      generalize upd J4 X4 (.lst ((ws.drop (i + 1)).map V.str)) = J5 at *
      refine ⟨X3, X4, _, _, rfl, rfl, x34, x4, sizeL (by rw [List.length_append, List.length_map, List.length_map, List.length_take, List.length_drop, List.length_singleton]; omega), fun X5 hX5 => ?_⟩
      have ee := (((e3.trans (Fr1.of t1)).trans g2).trans (Fr1.of (t23.trans t4))).trans (Fr1.of (Same.upd (o := .lst ((ws.take i).map V.str ++ [.str y] ++ (ws.drop (i + 1)).map V.str)) (Same.refl J5) hX5))
      have hwt2 : wt (ws.take i ++ [y] ++ ws.drop (i + 1)) + (ws.take i ++ [y] ++ ws.drop (i + 1)).length ≤ x.length + 30 * (m + 20) := by
        rw [wt_app, wt_app, wt_one]
        simp only [List.length_append, List.length_take, List.length_drop, List.length_singleton]
        omega
      refine ⟨_, X5, ws.take i ++ [y] ++ ws.drop (i + 1), rfl, rfl, .inl (SqL.of (by rw [upd_same, List.map_append, List.map_append]; rfl)), hsz _ hwt2, fin0 _ _ (fun w hw => ?_) hwt2 (s5.upd (s5.ne hX5)) ee⟩
      · rcases List.mem_append.mp hw with h | h
        · rcases List.mem_append.mp h with h | h
          · exact hold w (List.mem_of_mem_take h)
          · rw [List.mem_singleton.mp h]; exact ⟨hyc, by omega⟩
        · exact hold w (List.mem_of_mem_drop h)
    refine ⟨_, rfl, rfl, _, rfl, ite2 (fun c2 => ?_) (fun c2 => ?_)⟩
    · refine ⟨⟨_, rfl⟩, _, rfl, _, rfl, _, rfl, W, _, rfl, SqL.of hW3, fun X1 hX1 => ?_⟩
      rw [sl_toN]
      have t1 := Same.upd (o := .lst ((ws.take i).map V.str)) (Same.refl G3) hX1
      have x1 : upd G3 X1 (.lst ((ws.take i).map V.str)) X1 = some (.lst ((ws.take i).map V.str)) := upd_same
      generalize upd G3 X1 (.lst ((ws.take i).map V.str)) = J1 at *
      refine ⟨_, rfl, _, rfl, W, _, _, _, rfl, rfl, SqL.of (t1 _ _ hW3), atI_nat haj, sizeL (by show 1 ≤ 100000; decide), fun X2 hX2 => ?_⟩
      have t2 := Same.upd (o := .lst [.str ws[j]]) (Same.refl J1) hX2
      have x2 : upd J1 X2 (.lst [.str ws[j]]) X2 = some (.lst [.str ws[j]]) := upd_same
      have x12 := t2 _ _ x1
      generalize upd J1 X2 (.lst [.str ws[j]]) = J2 at *
      refine ⟨X1, X2, _, _, rfl, rfl, x12, x2, sizeL (by rw [List.length_map, List.length_take]; show _ + 1 ≤ _; omega), fun X3 hX3 => ?_⟩
      have t3 := Same.upd (o := .lst ((ws.take i).map V.str ++ [.str ws[j]])) (Same.refl J2) hX3
      have x3 : upd J2 X3 (.lst ((ws.take i).map V.str ++ [.str ws[j]])) X3 = some (.lst ((ws.take i).map V.str ++ [.str ws[j]])) := upd_same
      generalize upd J2 X3 (.lst ((ws.take i).map V.str ++ [.str ws[j]])) = J3 at *
      have t13 := (t1.trans t2).trans t3
      refine ⟨_, rfl, _, rfl, _, rfl, W, _, rfl, SqL.of (t13 _ _ hW3), fun X4 hX4 => ?_⟩
      rw [sl_frN]
      have t4 := Same.upd (o := .lst ((ws.drop i).map V.str)) (Same.refl J3) hX4
      have x4 : upd J3 X4 (.lst ((ws.drop i).map V.str)) X4 = some (.lst ((ws.drop i).map V.str)) := upd_same
      have x34 := t4 _ _ x3
      generalize upd J3 X4 (.lst ((ws.drop i).map V.str)) = J4 at *
      refine ⟨X3, X4, _, _, rfl, rfl, x34, x4, sizeL (by rw [List.length_append, List.length_map, List.length_map, List.length_take, List.length_drop, List.length_singleton]; omega), fun X5 hX5 => ?_⟩
      have t5 := t13.trans t4
      have s5 := hS3.same t5
      have hwt2 : wt (ws.take i ++ [ws[j]] ++ ws.drop i) + (ws.take i ++ [ws[j]] ++ ws.drop i).length ≤ x.length + 30 * (m + 20) := by
        rw [wt_app, wt_app, wt_one]
        simp only [List.length_append, List.length_take, List.length_drop, List.length_singleton]
        omega
      refine ⟨_, X5, ws.take i ++ [ws[j]] ++ ws.drop i, rfl, rfl, .inl (SqL.of (by rw [upd_same, List.map_append, List.map_append]; rfl)), hsz _ hwt2, fin0 _ _ (fun w hw => ?_) hwt2 ((s5.upd (s5.ne hX5)).mono (by omega)) (e3.trans (Fr1.of (Same.upd t5 (t5.free hX5))))⟩
      · rcases List.mem_append.mp hw with h | h
        · rcases List.mem_append.mp h with h | h
          · exact hold w (List.mem_of_mem_take h)
          · rw [List.mem_singleton.mp h]; exact ⟨hcj, by omega⟩
        · exact hold w (List.mem_of_mem_drop h)
    refine ⟨_, rfl, rfl, _, rfl, ite2 (fun c3 => ?_) (fun c3 => ?_)⟩
    · refine ⟨⟨_, rfl⟩, _, rfl, _, rfl, _, rfl, W, _, rfl, SqL.of hW3, fun X1 hX1 => ?_⟩
      rw [sl_toN]
      have t1 := Same.upd (o := .lst ((ws.take i).map V.str)) (Same.refl G3) hX1
      have x1 : upd G3 X1 (.lst ((ws.take i).map V.str)) X1 = some (.lst ((ws.take i).map V.str)) := upd_same
      generalize upd G3 X1 (.lst ((ws.take i).map V.str)) = J1 at *
      refine ⟨_, rfl, _, rfl, _, _, rfl, rfl, _, rfl, W, _, rfl, SqL.of (t1 _ _ hW3), fun X4 hX4 => ?_⟩
      rw [sl_frS]
      have t4 := Same.upd (o := .lst ((ws.drop (i + 1)).map V.str)) (Same.refl J1) hX4
      have x4 : upd J1 X4 (.lst ((ws.drop (i + 1)).map V.str)) X4 = some (.lst ((ws.drop (i + 1)).map V.str)) := upd_same
      have x14 := t4 _ _ x1
      generalize upd J1 X4 (.lst ((ws.drop (i + 1)).map V.str)) = J4 at *
      refine ⟨X1, X4, _, _, rfl, rfl, x14, x4, sizeL (by rw [List.length_map, List.length_map, List.length_take, List.length_drop]; omega), fun X5 hX5 => ?_⟩
      have t5 := t1.trans t4
      have s5 := hS3.same t5
      have hwt2 : wt (ws.take i ++ ws.drop (i + 1)) + (ws.take i ++ ws.drop (i + 1)).length ≤ x.length + 30 * (m + 20) := by
        rw [wt_app]
        simp only [List.length_append, List.length_take, List.length_drop, List.length_singleton]
        omega
      refine ⟨_, X5, ws.take i ++ ws.drop (i + 1), rfl, rfl, .inl (SqL.of (by rw [upd_same, List.map_append])), hsz _ hwt2, fin0 _ _ (fun w hw => ?_) hwt2 ((s5.upd (s5.ne hX5)).mono (by omega)) (e3.trans (Fr1.of (Same.upd t5 (t5.free hX5))))⟩
      · rcases List.mem_append.mp hw with h | h
        · exact hold w (List.mem_of_mem_take h)
        · exact hold w (List.mem_of_mem_drop h)
    refine ⟨_, rfl, rfl, _, rfl, ite2 (fun c4 => ?_) (fun c4 => ?_)⟩
    · refine ⟨⟨_, rfl⟩, _, rfl, _, rfl, _, rfl, W, _, rfl, SqL.of hW3, fun X1 hX1 => ?_⟩
      rw [sl_toN]
      have t1 := Same.upd (o := .lst ((ws.take i).map V.str)) (Same.refl G3) hX1
      have x1 : upd G3 X1 (.lst ((ws.take i).map V.str)) X1 = some (.lst ((ws.take i).map V.str)) := upd_same
      generalize upd G3 X1 (.lst ((ws.take i).map V.str)) = J1 at *
      refine ⟨sizeL (by show 1 ≤ 100000; decide), fun X2 hX2 => ?_⟩
      have t2 := Same.upd (o := .lst [.str ""]) (Same.refl J1) hX2
      have x2 : upd J1 X2 (.lst [.str ""]) X2 = some (.lst [.str ""]) := upd_same
      have x12 := t2 _ _ x1
      generalize upd J1 X2 (.lst [.str ""]) = J2 at *
      refine ⟨X1, X2, _, _, rfl, rfl, x12, x2, sizeL (by rw [List.length_map, List.length_take]; show _ + 1 ≤ _; omega), fun X3 hX3 => ?_⟩
      have t3 := Same.upd (o := .lst ((ws.take i).map V.str ++ [.str ""])) (Same.refl J2) hX3
      have x3 : upd J2 X3 (.lst ((ws.take i).map V.str ++ [.str ""])) X3 = some (.lst ((ws.take i).map V.str ++ [.str ""])) := upd_same
      generalize upd J2 X3 (.lst ((ws.take i).map V.str ++ [.str ""])) = J3 at *
      have t13 := (t1.trans t2).trans t3
      refine ⟨_, rfl, _, rfl, _, rfl, W, _, rfl, SqL.of (t13 _ _ hW3), fun X4 hX4 => ?_⟩
      rw [sl_frN]
      have t4 := Same.upd (o := .lst ((ws.drop i).map V.str)) (Same.refl J3) hX4
      have x4 : upd J3 X4 (.lst ((ws.drop i).map V.str)) X4 = some (.lst ((ws.drop i).map V.str)) := upd_same
      have x34 := t4 _ _ x3
      generalize upd J3 X4 (.lst ((ws.drop i).map V.str)) = J4 at *
      refine ⟨X3, X4, _, _, rfl, rfl, x34, x4, sizeL (by rw [List.length_append, List.length_map, List.length_map, List.length_take, List.length_drop, List.length_singleton]; omega), fun X5 hX5 => ?_⟩
      have t5 := t13.trans t4
      have s5 := hS3.same t5
      have hwt2 : wt (ws.take i ++ [("" : Str)] ++ ws.drop i) + (ws.take i ++ [("" : Str)] ++ ws.drop i).length ≤ x.length + 30 * (m + 20) := by
        rw [wt_app, wt_app, wt_one, show ("" : Str).length = 0 from rfl]
        simp only [List.length_append, List.length_take, List.length_drop, List.length_singleton]
        omega
      refine ⟨_, X5, ws.take i ++ [("" : Str)] ++ ws.drop i, rfl, rfl, .inl (SqL.of (by rw [upd_same, List.map_append, List.map_append]; rfl)), hsz _ hwt2, fin0 _ _ (fun w hw => ?_) hwt2 ((s5.upd (s5.ne hX5)).mono (by omega)) (e3.trans (Fr1.of (Same.upd t5 (t5.free hX5))))⟩
      · rcases List.mem_append.mp hw with h | h
        · rcases List.mem_append.mp h with h | h
          · exact hold w (List.mem_of_mem_take h)
          · rw [List.mem_singleton.mp h]; exact ⟨(clean_lit (by decide +kernel) : Clean "").cods, by show 0 ≤ _; omega⟩
        · exact hold w (List.mem_of_mem_drop h)
    refine ⟨_, rfl, _, rfl, W, _, rfl, SqL.of hW3, fun X0 hX0 => ?_⟩
    rw [show cutV (ws.map V.str) (some 1) none = (ws.drop 1).map V.str from sl_frN ws 1]
    have t0 := Same.upd (o := .lst ((ws.drop 1).map V.str)) (Same.refl G3) hX0
    have x0 : upd G3 X0 (.lst ((ws.drop 1).map V.str)) X0 = some (.lst ((ws.drop 1).map V.str)) := upd_same
    generalize upd G3 X0 (.lst ((ws.drop 1).map V.str)) = J0 at *
    refine ⟨fun σ' H' => ∃ (R : Addr) (rs : List Str), σ' = [some (.ref a), some tv, some (.str x), some (.ref W), some (.int i), some (.int j), some (.int way), some (.ref R), none, none] ∧ H' R = some (.lst (rs.map V.str)) ∧ 0 < rs.length ∧ rs.length ≤ 3002 ∧ (∀ w ∈ rs, w ∈ ws) ∧ Same G3 H', ?_, ?_⟩
    · refine ⟨_, rfl, sizeL (by show 0 ≤ 100000; decide), fun L hL => ?_⟩
      have t1 := Same.upd (o := .lst []) (Same.refl J0) hL
      have hL1 : upd J0 L (.lst []) L = some (.lst []) := upd_same
      have x1 := t1 _ _ x0
      generalize upd J0 L (.lst []) = J1 at *
      have hfi : Fine 2 (.list ((ws.drop 1).map PyData.str)) := Fine.lst (n := 1) fun d hd => by
        obtain ⟨w, hw, rfl⟩ := List.mem_map.mp hd
        exact Fine.str (hcl w (List.mem_of_mem_drop hw))
      refine ⟨.list ((ws.drop 1).map PyData.str), .list [], Dp.lst (SqL.of x1) (TdAll.strs _).dp, Dp.lst (SqL.of hL1) .nil, hfi.sh (by decide), (Fine.lst (n := 1) (by simp)).sh (by decide), _, rfl, ?_⟩
      rw [eqv_lists_nil]
      refine ite2 (fun c => ?_) (fun c => ?_)
      · exact ⟨_, rfl, W, ws, rfl, (t0.trans t1) _ _ hW3, hlen, hws, fun w hw => hw, t0.trans t1⟩
      · refine ⟨X0, ws.drop 1, rfl, x1, ?_, by rw [List.length_drop]; omega, fun w hw => List.mem_of_mem_drop hw, t0.trans t1⟩
        rcases Nat.eq_zero_or_pos (ws.drop 1).length with z | z
        · exact absurd (by rw [List.eq_nil_of_length_eq_zero z]; rfl) c
        · exact z
    rintro σ' J2 ⟨R, rs, rfl, hR2, hrs0, hrs1, hrs, t2⟩
    have hW2 := t2 _ _ hW3
    have h00 : (ws.map V.str)[0]? = some (.str ws[0]) := by rw [List.getElem?_map, List.getElem?_eq_getElem hlen]; rfl
    refine ⟨⟨_, rfl⟩, _, rfl, W, _, _, _, rfl, rfl, SqL.of hW2, atI_nat (j := 0) h00, sizeL (by show 1 ≤ 100000; decide), fun X1 hX1 => ?_⟩
    have t3 := Same.upd (o := .lst [.str ws[0]]) (Same.refl J2) hX1
    have x1 : upd J2 X1 (.lst [.str ws[0]]) X1 = some (.lst [.str ws[0]]) := upd_same
    generalize upd J2 X1 (.lst [.str ws[0]]) = J3 at *
    have t23 := t2.trans t3
    have hS4 := hS3.same t23
    have nXa : X1 ≠ a := ((hS3.same t2).ne hX1).symm
    have hstsG : ∃ l, J2 a = some (.lst l) := (hS3.same t2).lst
    refine ⟨_, rfl, a, 7, n + 6, rfl, by decide, by decide, hS4.mono (by omega), fun d J4 d0 d1 hS5 f5 => ⟨_, _, rfl, rfl, _, rfl, by omega, by omega, fun D hD => ?_⟩⟩
    have nRa : R ≠ a := fun z => by
      obtain ⟨u1, u2, u3, hs, _⟩ := hS3.same t2
      rw [z, hs] at hR2
      have h1 := HO.lst.inj (Option.some.inj hR2)
      match rs, h1 with
      | [], h1 => cases h1
      | w :: _, h1 => cases h1
    have hR4 := f5 _ _ nRa (t3 _ _ hR2)
    have x14 := f5 _ _ nXa x1
    refine lc_range (lo := 0) (n := (19 + d).toNat) (fun t Hi => ∃ ys : List Str, Hi D = some (.lst (ys.map V.str)) ∧ ys.length = t ∧ (∀ w ∈ ys, w ∈ ws) ∧ Same J4 Hi) ?_ ?_ ?_
    · exact ⟨[], upd_same, rfl, by simp, Same.upd (Same.refl _) hD⟩
    · rintro t Hi ht ⟨ys, hDi, hyl, hyw, ei⟩
      refine ⟨rfl, tYes_if ?_⟩
      have hRi := ei _ _ hR4
      have hmod : t % rs.length < rs.length := Nat.mod_lt _ hrs0
      have hat : atI (rs.map V.str) ((0 + (t : Nat) : Int) % (((rs.map V.str).length : Nat) : Int)) = some (.str (rs[t % rs.length])) := by
        rw [List.length_map, show (0 + (t : Nat) : Int) % ((rs.length : Nat) : Int) = ((t % rs.length : Nat) : Int) by rw [Int.zero_add]; rfl]
        exact atI_nat (by rw [List.getElem?_map, List.getElem?_eq_getElem hmod]; rfl)
      refine ⟨_, rfl, _, rfl, .inl ⟨_, rfl, _, rfl, R, _, rfl, .inl (SqL.of hRi), _, _, rfl, rfl, by rw [List.length_map]; omega, R, _, _, _, rfl, rfl, SqL.of hRi, hat, ys.map V.str, hDi, sizeLt (by rw [List.length_map]; omega), ys ++ [rs[t % rs.length]], by rw [upd_same, List.map_append]; rfl, by rw [List.length_append, List.length_singleton, hyl], fun w hw => ?_, Same.upd ei hD⟩⟩
      rcases List.mem_append.mp hw with h | h
      · exact hyw w h
      · rw [List.mem_singleton.mp h]
        exact hrs _ (List.getElem_mem hmod)
    rintro J6 ⟨ys, hD6, hyl, hyw, e6⟩
    have hyl25 : ys.length ≤ 25 := by omega
    have x16 := e6 _ _ x14
    refine ⟨X1, D, _, _, rfl, rfl, x16, hD6, sizeL (by rw [List.length_map]; show 1 + _ ≤ _; omega), fun X5 hX5 => ?_⟩
    have hmem : ∀ w ∈ [ws[0]] ++ ys, w ∈ ws := fun w hw => by
      rcases List.mem_append.mp hw with h | h
      · rw [List.mem_singleton.mp h]
        exact List.getElem_mem hlen
      · exact hyw w h
    have hwt2 : wt ([ws[0]] ++ ys) + ([ws[0]] ++ ys).length ≤ x.length + 30 * (m + 20) := by
      have h1 := sum_le (fun w : Str => w.length) m (l := [ws[0]] ++ ys) fun w hw => hll w (hmem w hw)
      have h2 : ([ws[0]] ++ ys).length ≤ 26 := by rw [List.length_append, List.length_singleton]; omega
      have h3 : wt ([ws[0]] ++ ys) = (([ws[0]] ++ ys).map (·.length)).sum + ([ws[0]] ++ ys).length := rfl
      have h4 : ([ws[0]] ++ ys).length * m ≤ 26 * m := Nat.mul_le_mul_right _ h2
      omega
    refine ⟨_, X5, [ws[0]] ++ ys, rfl, rfl, .inl (SqL.of (by rw [upd_same, List.map_append]; rfl)), hsz _ hwt2, fin0 _ _ (fun w hw => hold w (hmem w hw)) hwt2 (((hS5.same e6).upd ((hS5.same e6).ne hX5)).mono (by omega)) (((e3.trans (Fr1.of t23)).trans f5).trans (Fr1.of (Same.upd e6 (e6.free hX5))))⟩
end My
namespace My
open PySem L2
def spDue : Sp := fun vs H Q _ => ∃ (tv v : V) (pl : Plan) (d : PyData), vs = [tv, v] ∧ Td H tv (planD pl) ∧ Good pl ∧ Th H v d ∧ Fit d ∧ ∀ a H' xs, H a = none → H' a = some (.lst xs) → TdAll H' xs (dueP pl d) → Same H H' → Q (.ref a) H'
theorem uniqN {pl : Plan} (g : Good pl) {a b : Ent} (ha : a ∈ pl) (hb : b ∈ pl) (h : a.1 = b.1) : a = b := by
  have nd := g.nd
  clear g
  induction pl with
  | nil => cases ha
  | cons x l ih =>
    rw [List.map_cons] at nd
    obtain ⟨n1, n2⟩ := List.nodup_cons.mp nd
    rcases List.mem_cons.mp ha with ea | ha2
    · rcases List.mem_cons.mp hb with eb | hb2
      · rw [ea, eb]
      · exact absurd (List.mem_map.mpr ⟨b, hb2, by rw [← h, ea]⟩) n1
    · rcases List.mem_cons.mp hb with eb | hb2
      · exact absurd (List.mem_map.mpr ⟨a, ha2, by rw [h, eb]⟩) n1
      · exact ih ha2 hb2 n2
theorem dpAll_cols {K : PySem.W.Frag} {H : Hp} {pl : Plan} {n : Str} (g : Good pl) : ∀ {ys : List V}, (∀ v ∈ ys, ∃ e ∈ pl, e.1 = n ∧ ∃ l, v = .ref l ∧ H l = some (.lst ((e.2.2.map (·.1)).map V.str))) → ∃ ds, DpAll K H ys ds ∧ ds.length = ys.length ∧ ∀ d ∈ ds, Fine 2 d
  | [], _ => ⟨[], .nil, rfl, by simp⟩
  | v :: r, h => by
    obtain ⟨ds, h1, h2, h3⟩ := dpAll_cols (K := K) g fun x hx => h x (List.mem_cons_of_mem _ hx)
    obtain ⟨e, he, _, l, rfl, hl⟩ := h v List.mem_cons_self
    have hT : TdAll H ((e.2.2.map (·.1)).map V.str) ((e.2.2.map (·.1)).map PyData.str) := TdAll.strs _
    have f1 : Fine 2 (.list ((e.2.2.map (·.1)).map PyData.str)) := Fine.lst (n := 1) fun d hd => by
      obtain ⟨w, hw, rfl⟩ := List.mem_map.mp hd
      obtain ⟨r, hr, rfl⟩ := List.mem_map.mp hw
      exact ((g.refs e he).nm r hr).fine
    refine ⟨_ :: ds, .cons (Dp.lst (SqL.of hl) hT.dp) h1, by simp [h2], fun d hd => ?_⟩
    rcases List.mem_cons.mp hd with rfl | hd
    · exact f1
    · exact h3 d hd
theorem ok_law_due {P : Program} {w : World} {K : PySem.W.Frag} {mg : Str → Option Value} {base : Heap} {CS CP XCarryError XNoSchema XNoStep XNoText XNoKept XMissing XNoColumn XNoFlag XNoKey XNoRow XNoStops XNoStrokes XNoTable XNotClosed XNothingBegun XNotSafe XNotSame XRefused XTaken XT_MISSING_WORDS XT_COLUMN_STEPS : Addr} (T : Txt K mg CS CP XCarryError XNoSchema XNoStep XNoText XNoKept XMissing XNoColumn XNoFlag XNoKey XNoRow XNoStops XNoStrokes XNoTable XNotClosed XNothingBegun XNotSafe XNotSame XRefused XTaken XT_MISSING_WORDS XT_COLUMN_STEPS) : CallOk P w K mg base 3 "_law_due" spDue := by
  have c_law_part := ok_law_part (P := P) (w := w) (base := base) T
  refine T.d_law_due.ok sc_law_due (fun vs H Q E h => ?_) (fun f cdv A outer s H vs Q E hr h => ?_)
  · obtain ⟨tv, v, pl, d, rfl, _⟩ := h
    rfl
  · obtain ⟨tv, v, pl, d, rfl, hTv, g, hT, hs, q⟩ := h
    refine ⟨_, (pss_cons (ps_if (pt_not (pt_val (pe_callB (kIsi (K := K)) (by rfl) T.n_isinstance (by decide +kernel) (pa_cons (pv 1) (pa_cons (pe_bltn (v := .ty "str") (by rfl) T.n_str (by decide +kernel) rfl) pa_nil))))) (pss_one (ps_ret (pe_lst (pa_cons pe_str (pa_cons pe_int (pa_cons pe_bl (pa_cons pe_bl (pa_cons pe_bl pa_nil)))))))) pss_nil)
      (pss_cons (ps_set (i := 2) sc_law_due.nd rfl (by first | exact Or.inl rfl | exact Or.inr rfl) (pe_split (pv 1) pe_str))
      (pss_cons (ps_if (PW.pt (pw_and (pt_cmpR op_ne (pe_ix (kIxL (K := K)) (pv 2) pe_int (fun _ _ => rfl)) pe_str (nomark _)) (pw_and1 (pt_cmpR op_ne (pe_ix (kIxL (K := K)) (pv 2) pe_int (fun _ _ => rfl)) pe_str (nomark _))))) (pss_one (ps_ret (pe_lst (pa_cons pe_str (pa_cons pe_int (pa_cons pe_bl (pa_cons pe_bl (pa_cons pe_bl pa_nil)))))))) pss_nil)
      (pss_cons (ps_setLc (i := 3) (own := [("part", 11)]) rfl sc_law_due.nd rfl rfl (sw_true rfl rfl rfl (by decide +kernel)) (kPiL (K := K) (pe_slice sl_list (pv 2) (po_some pe_int) po_none)) (blkOk_by (N := ["tables", "written", "parts", "steps_there", "k", "columns", "name", "unique", "references", "step", "found", "part", "row", "column", "other"]) (sc := defScope s_law_due) (own := [("part", 11)]) (by decide +kernel)) (fun _ _ _ _ _ => (pg_name (i := 11) sc_law_due.nd rfl (by first | exact Or.inl rfl | exact Or.inr rfl))) (fun _ _ _ _ _ => pts_nil) (fun _ _ _ _ _ => (pe_callC c_law_part (hr.mono (by decide)) (pa_cons (pv 11) pa_nil))))
      (pss_cons (ps_for PassesOwn.never rfl (pi_range1 (by rfl) T.n_range (pa_cons (pe_callB (kLen (K := K)) (by rfl) T.n_len PySem.boot_len (pa_cons (pv 3) pa_nil)) pa_nil)) (pg_name (i := 4) sc_law_due.nd rfl (by first | exact Or.inl rfl | exact Or.inr rfl))
      (pss_one (ps_if (pt_cmpR op_isN (pe_ix (kIxL (K := K)) (pv 3) (pv 4) (fun _ _ => rfl)) pe_non (nomark _)) (pss_one (ps_ret (pe_lst (pa_cons pe_str (pa_cons (pe_op op_add (pv 4) pe_int) (pa_cons pe_bl (pa_cons pe_bl (pa_cons pe_bl pa_nil)))))))) pss_nil)))
      (pss_cons (ps_set (i := 5) sc_law_due.nd rfl (by first | exact Or.inl rfl | exact Or.inr rfl) (pe_lst pa_nil))
      (pss_cons (ps_for PassesOwn.never rfl (kPiT (K := K) (pv 0)) (kPgT (K := K) (n := 3) rfl (pgs_cons (pg_name (i := 6) sc_law_due.nd rfl (by first | exact Or.inl rfl | exact Or.inr rfl)) (pgs_cons (pg_name (i := 7) sc_law_due.nd rfl (by first | exact Or.inl rfl | exact Or.inr rfl)) (pgs_cons (pg_name (i := 8) sc_law_due.nd rfl (by first | exact Or.inl rfl | exact Or.inr rfl)) pgs_nil))))
      (pss_one (ps_expr (pe_bm PySem.F.plainAttrs_list PySem.F.slot_list_append PySem.F.type_list_append mt_append (pv 5) (pa_cons (pe_tup (pa_cons (pv 6) (pa_cons (pe_lc (own := [("column", 13), ("other", 14)]) rfl sc_law_due.nd (kPiT (K := K) (pv 8)) (blkOk_by (N := ["tables", "written", "parts", "steps_there", "k", "columns", "name", "unique", "references", "step", "found", "part", "row", "column", "other"]) (sc := defScope s_law_due) (own := [("column", 13), ("other", 14)]) (by decide +kernel)) (fun _ _ _ _ _ => (kPgT (K := K) (n := 2) rfl (pgs_cons (pg_name (i := 13) sc_law_due.nd rfl (by first | exact Or.inl rfl | exact Or.inr rfl)) (pgs_cons (pg_name (i := 14) sc_law_due.nd rfl (by first | exact Or.inl rfl | exact Or.inr rfl)) pgs_nil)))) (fun _ _ _ _ _ => pts_nil) (fun _ _ _ _ _ => (pv 13))) pa_nil))) pa_nil)))))
      (pss_cons (ps_for PassesOwn.never rfl (pi_range1 (by rfl) T.n_range (pa_cons (pe_callB (kLen (K := K)) (by rfl) T.n_len PySem.boot_len (pa_cons (pv 3) pa_nil)) pa_nil)) (pg_name (i := 4) sc_law_due.nd rfl (by first | exact Or.inl rfl | exact Or.inr rfl))
      (pss_cons (ps_set (i := 9) sc_law_due.nd rfl (by first | exact Or.inl rfl | exact Or.inr rfl) (pe_ix (kIxL (K := K)) (pv 3) (pv 4) (fun _ _ => rfl)))
          (pss_cons (ps_setLc (i := 10) (own := [("name", 6), ("row", 12)]) rfl sc_law_due.nd rfl rfl (sw_true rfl rfl rfl (by decide +kernel)) (kPiL (K := K) (pv 5)) (blkOk_by (N := ["tables", "written", "parts", "steps_there", "k", "columns", "name", "unique", "references", "step", "found", "part", "row", "column", "other"]) (sc := defScope s_law_due) (own := [("name", 6), ("row", 12)]) (by decide +kernel)) (fun _ _ _ _ _ => (kPgT (K := K) (n := 2) rfl (pgs_cons (pg_name (i := 6) sc_law_due.nd rfl (by first | exact Or.inl rfl | exact Or.inr rfl)) (pgs_cons (pg_name (i := 12) sc_law_due.nd rfl (by first | exact Or.inl rfl | exact Or.inr rfl)) pgs_nil)))) (fun _ _ _ _ _ => (pts_one (pt_cmpR op_eq (pv 6) (pe_ix (kIxT (K := K)) (pv 9) pe_int (fun _ _ => rfl)) (nomark _)))) (fun _ _ _ _ _ => (pv 12)))
          (pss_one (ps_if (PW.pt (pw_or (pt_cmpR op_ge (pv 4) pe_int (nomark _)) (pw_or (pt_cmpR (kEqD (K := K) hr.units) (pv 10) (pe_lst pa_nil) (nomark _)) (pw_or1 (PW.pt (pw_and (pt_cmpR op_ne (pe_ix (kIxT (K := K)) (pv 9) pe_int (fun _ _ => rfl)) pe_str (nomark _)) (pw_and1 (pt_cmpR (kNotIn (K := K)) (pe_ix (kIxT (K := K)) (pv 9) pe_int (fun _ _ => rfl)) (pe_ix (kIxL (K := K)) (pv 10) pe_int (fun _ _ => rfl)) rfl)))))))) (pss_one (ps_ret (pe_lst (pa_cons pe_str (pa_cons (pv 4) (pa_cons pe_bl (pa_cons pe_bl (pa_cons pe_bl pa_nil)))))))) pss_nil)))))
      (pss_one (ps_ret (pe_lst (pa_cons pe_str (pa_cons (pe_callTy (kTup (K := K)) (by rfl) T.n_tuple (by decide +kernel) (pa_cons (pv 3) pa_nil)) (pa_cons (pe_cmpR op_eq (pe_ix (kIxL (K := K)) (pv 2) pe_int (fun _ _ => rfl)) pe_str (nomark _)) pa_nil)))))))))))))), ?_⟩
    by_cases hd : ∃ x, d = .str x
    case neg =>
      have n : ∀ x, d ≠ .str x := fun x e => hd ⟨x, e⟩
      obtain ⟨ty, hty, ko⟩ := hT.notStr (K := K) n
      have hf : isStrD d = false := by
        cases d with
        | str x => exact absurd rfl (n x)
        | _ => rfl
      refine ⟨_, rfl, _, _, _, _, false, rfl, ClsV.ty "str", hty, ko, false, rfl, iteT ⟨sizeL (by show 5 ≤ 100000; decide), fun L hL => ?_⟩⟩
      refine q L _ _ hL upd_same ?_ (Same.upd (Same.refl H) hL)
      rw [dueP_no hf]
      exact .cons (.str _) (.cons (.int _) (.cons (.bl _) (.cons (.bl _) (.cons (.bl _) .nil))))
    obtain ⟨x, rfl⟩ := hd
    obtain rfl := hT.str_inv
    obtain ⟨hxl, hxp, hxc⟩ := hs x rfl
    refine ⟨_, rfl, _, _, _, _, true, rfl, ClsV.ty "str", TyX.base (TyOf.str x), kit_ty (by decide +kernel), _, rfl, iteF ?_⟩
    have hnum := part_num (x := x) sep_semi
    have hpos := part_pos (x := x) sep_semi
    have hbs : badS x = match Txt.split x "; " with
      | k :: r => if k = "kept" ∨ k = "lost" then badP 1 r else some 0
      | [] => some 0 := rfl
    have hso : stsOf x = ((Txt.split x "; ").drop 1).map fun p => stepOf (Txt.split p " ") := rfl
    have hko : kpOf x = decide ((Txt.split x "; ")[0]? = some ("kept" : Str)) := rfl
    refine ⟨_, rfl, ⟨_, rfl⟩, x, _, rfl, rfl, sep_semi.len, sizeL (by omega), fun P hP => ?_⟩
    generalize Txt.split x "; " = ls at *
    obtain ⟨k, r, rfl⟩ : ∃ k r, ls = k :: r := by
      match ls, hpos with
      | [], h => exact absurd rfl h
      | k :: r, _ => exact ⟨k, r, rfl⟩
    have hbs : badS x = if k = "kept" ∨ k = "lost" then badP 1 r else some 0 := hbs
    have hso : stsOf x = r.map fun p => stepOf (Txt.split p " ") := hso
    have hko : kpOf x = decide (some k = some ("kept" : Str)) := hko
    rw [List.length_cons] at hnum
    have e0 := Same.upd (o := .lst ((k :: r).map V.str)) (Same.refl H) hP
    have hP0 : upd H P (.lst ((k :: r).map V.str)) P = some (.lst ((k :: r).map V.str)) := upd_same
    generalize upd H P (.lst ((k :: r).map V.str)) = G0 at *
    have five0 : badS x = some 0 → ∀ L, G0 L = none → Q (.ref L) (upd G0 L (.lst [.str "text", .int 0, .bl true, .bl true, .bl false])) := fun hb L hL => by
      refine q L _ _ (e0.free hL) upd_same ?_ (Same.upd e0 (e0.free hL))
      rw [dueP_part hb]
      exact .cons (.str _) (.cons (.int _) (.cons (.bl _) (.cons (.bl _) (.cons (.bl _) .nil))))
    by_cases hk : k = "kept" ∨ k = "lost"
    case neg =>
      refine ⟨_, rfl, P, _, _, _, rfl, rfl, SqL.of hP0, atI_nat (j := 0) rfl, rfl, _, rfl, ?_⟩
      rw [decide_eq_false (fun z => hk (.inl (V.str.inj z)))]
      refine iteT ⟨_, rfl, P, _, _, _, rfl, rfl, SqL.of hP0, atI_nat (j := 0) rfl, rfl, _, rfl, ?_⟩
      rw [decide_eq_false (fun z => hk (.inr (V.str.inj z)))]
      exact iteT ⟨sizeL (by show 5 ≤ 100000; decide), fun L hL => five0 (by rw [hbs, if_neg hk]) L hL⟩
    have hbad1 : badS x = badP 1 r := by rw [hbs, if_pos hk]
    have heach : ∀ l ∈ r, l.length ≤ 1000 := fun l hl => hxp l (List.mem_cons_of_mem _ hl)
    clear five0
    rcases hk with rfl | rfl
    case' inl => refine ⟨_, rfl, P, _, _, _, rfl, rfl, SqL.of hP0, atI_nat (j := 0) rfl, rfl, _, rfl, ifSame ?_⟩
    case' inr =>
      refine ⟨_, rfl, P, _, _, _, rfl, rfl, SqL.of hP0, atI_nat (j := 0) rfl, rfl, _, rfl, ?_⟩
      rw [decide_eq_false (fun z : V.str "lost" = V.str "kept" => absurd (V.str.inj z) (by decide +kernel))]
      refine iteT ⟨_, rfl, P, _, _, _, rfl, rfl, SqL.of hP0, atI_nat (j := 0) rfl, rfl, _, rfl, ifSame ?_⟩
    all_goals
      refine ⟨_, rfl, _, rfl, P, _, rfl, SqL.of hP0, fun X hX => ?_⟩
      rw [show ∀ c : Str, cutV ((c :: r).map V.str) (some 1) none = r.map V.str from fun c => (cutV_strs (c :: r) (some ((1 : Nat) : Int)) none).trans (congrArg (List.map V.str) (cutL_from (c :: r) 1))]
      have t1 := Same.upd (o := .lst (r.map V.str)) (Same.refl G0) hX
      have x1 : upd G0 X (.lst (r.map V.str)) X = some (.lst (r.map V.str)) := upd_same
      have hP1 := t1 _ _ hP0
      generalize upd G0 X (.lst (r.map V.str)) = G1 at *
      refine ⟨X, rfl, ⟨_, SqL.of x1⟩, fun ST hST => ?_⟩
      refine lc_f (walk_list (K := K) (a := X) (xs := r.map V.str)) (fun j => r[j]?.map fun l : Str => if stepTB (Txt.split l " ") = true then (stepOf (Txt.split l " ")).d else .none) (by rw [List.length_map]; omega) hST (fun H' e' => SqL.of (e' _ _ x1)) ?_ ?_
      · rintro j y Ha Hb Nx Ny hj ea ⟨rfl, hy⟩ k1 k2
        rw [List.getElem?_map] at hy
        obtain ⟨l, hl, rfl⟩ := Option.map_eq_some_iff.mp hy
        refine ⟨rfl, tYes_if ?_⟩
        refine ⟨_, rfl, l, rfl, heach l (List.mem_of_getElem? hl), fun hf H' e' => ?_, fun ht v H' hv e' => ?_⟩
        · exact k1 _ _ _ (by rw [hl]; exact congrArg some (if_neg (by rw [hf]; decide))) .non e'
        · exact k1 _ _ _ (by rw [hl]; exact congrArg some (if_pos ht)) hv e'
      rintro acc G2 hST2 hT2 hal e2
      rw [List.length_map, range_map] at hT2
      have e02 := (e0.trans t1).trans e2
      have hP2 := e2 _ _ hP1
      have hacl : acc.length = r.length := by rw [hT2.length, List.length_map]
      refine ⟨_, rfl, ST, _, rfl, .inl (SqL.of hST2), _, rfl, by omega, by omega, for_range (lo := 0) (n := acc.length) (fun k σ Hi => ∃ (o4 : Option V), σ = [some tv, some (.str x), some (.ref P), some (.ref ST), o4, none, none, none, none, none, none, none, none, none, none] ∧ (∀ l ∈ r.take k, stepTB (Txt.split l " ") = true) ∧ badS x = badP (1 + k) (r.drop k) ∧ Same G2 Hi) ?_ ?_ ?_⟩
      · exact ⟨_, rfl, by simp, hbad1, Same.refl _⟩
      · rintro k σ Hi hk ⟨o4, rfl, hgood, hbad, ei⟩
        have hkr : k < r.length := by omega
        have hSTi := ei _ _ hST2
        obtain ⟨dd, hdd, hTd⟩ := (hT2.mono (KT.of ei)).getM (List.getElem?_eq_getElem hk)
        have hlk : r[k]? = some r[k] := List.getElem?_eq_getElem hkr
        rw [hlk] at hdd
        cases hdd
        have hdrop := badP_at hlk 1
        have htk := List.take_succ_eq_append_getElem hkr
        refine ⟨_, rfl, _, rfl, ST, _, _, acc[k], rfl, rfl, SqL.of hSTi, by rw [show (0 : Int) + (k : Nat) = ((k : Nat) : Int) by omega]; exact atI_nat (List.getElem?_eq_getElem hk), rfl, _, rfl, ?_⟩
        generalize r[k] = l at *
        generalize acc[k] = w at hTd ⊢
        by_cases c : stepTB (Txt.split l " ") = true
        · rw [if_pos c] at hTd
          obtain ⟨tt, ev, _⟩ := Step.td hTd
          rw [ev, decide_eq_false (by intro z; cases z)]
          refine iteF ⟨_, rfl, fun z hz => ?_, ?_, ei⟩
          · rw [htk] at hz
            rcases List.mem_append.mp hz with h | h
            · exact hgood z h
            · rw [List.mem_singleton.mp h]; exact c
          · rw [hbad, hdrop, if_pos c]
        · rw [if_neg c] at hTd
          have ev : w = .non := by cases hTd; rfl
          rw [ev, decide_eq_true rfl]
          refine iteT ⟨_, rfl, _, _, rfl, rfl, sizeL (by show 5 ≤ 100000; decide), fun L hL => ?_⟩
          have ee := e02.trans ei
          refine q L _ _ (ee.free hL) upd_same ?_ (Same.upd ee (ee.free hL))
          have hb : badS x = some (1 + k) := by rw [hbad, hdrop, if_neg c]
          rw [dueP_part hb]
          refine .cons (.str _) (.cons ?_ (.cons (.bl _) (.cons (.bl _) (.cons (.bl _) .nil))))
          show Td _ (V.int ((0 : Int) + (k : Nat) + 1)) _
          rw [show (0 : Int) + (k : Nat) + 1 = ((1 + k : Nat) : Int) by omega]
          exact .int _
      rintro σ G3 ⟨o4, rfl, hgood, hbad, e3⟩
      rw [hacl, List.take_length] at hgood
      rw [hacl, List.drop_length] at hbad
      have hbad : badS x = none := hbad
      have e03 := e02.trans e3
      have hST3 := e3 _ _ hST2
      have hP3 := e3 _ _ hP2
      have hT3 : TdAll G3 acc ((stsOf x).map Step.d) := by
        have := hT2.mono (KT.of e3)
        rw [hso, List.map_map]
        have hc : (r.map fun l : Str => if stepTB (Txt.split l " ") = true then (stepOf (Txt.split l " ")).d else .none) = r.map (Step.d ∘ fun l => stepOf (Txt.split l " ")) := List.map_congr_left fun l hl => if_pos (hgood l hl)
        rw [hc] at this
        exact this
      have hnice : ∀ s ∈ stsOf x, s.Nice := fun s hs => by
        rw [hso] at hs
        obtain ⟨l, hl, rfl⟩ := List.mem_map.mp hs
        obtain ⟨s2, h1, h2, h3⟩ := stepTB_inv (hgood l hl)
        rw [h3]
        exact h2
      have hslen : (stsOf x).length = acc.length := by
        rw [hso, List.length_map, hacl]
        rfl
      clear hT2 hbs
      refine ⟨sizeL (by show 0 ≤ 100000; decide), fun CL hCL => ?_⟩
      have e4 := Same.upd (o := .lst []) (Same.refl G3) hCL
      have hCL4 : upd G3 CL (.lst []) CL = some (.lst []) := upd_same
      generalize upd G3 CL (.lst []) = G4 at *
      obtain ⟨t, xs, rfl, ht, hx⟩ := hTv.tup_inv
      have hlx : xs.length = pl.length := by rw [hx.length, List.length_map]
      have hhi := g.hi
      have e04 := e03.trans e4
      have ht4 := e04 _ _ ht
      have hx4 := hx.mono (KT.of e04)
      refine ⟨_, rfl, t, rfl, ⟨_, SqT.of ht4⟩, for_tup (K := K) (a := t) (xs := xs) (fun i σ Hi => ∃ (o6 o7 o8 : Option V) (cvs : List V), σ = [some (.ref t), some (.str x), some (.ref P), some (.ref ST), o4, some (.ref CL), o6, o7, o8, none, none, none, none, none, none] ∧ Hi CL = some (.lst cvs) ∧ cvs.length = i ∧ i ≤ pl.length ∧ (∀ (j : Nat) v e, cvs[j]? = some v → pl[j]? = some e → ColAt CL Hi v e) ∧ Same G3 Hi) ?_ ?_ ?_ ?_⟩
      · exact ⟨_, _, _, [], rfl, hCL4, rfl, Nat.zero_le _, fun j v e hv => by simp at hv, e4⟩
      · rintro i σ Hi _ ⟨_, _, _, _, _, _, _, _, _, e⟩
        exact SqT.of (e _ _ (e03 _ _ ht))
      · rintro i y σ Hi hy ⟨o6, o7, o8, cvs, rfl, hCi, hcl, hip, hcv, ei⟩
        have hil : i < pl.length := by have := (List.getElem?_eq_some_iff.mp hy).1; omega
        obtain ⟨e, he, hTd⟩ := (hx.mono (KT.of (e03.trans ei))).getM hy
        have hem := List.mem_of_getElem? he
        obtain ⟨tn, tr, rs, rfl, htn, htr, hrs⟩ := entD_inv hTd
        have hlr : rs.length = e.2.2.length := by rw [hrs.length, List.length_map]
        have hr3 := (g.refs e hem).len
        refine ⟨tn, _, rfl, SqT.of htn, rfl, _, _, rfl, _, _, rfl, _, _, rfl, rfl, ?_⟩
        refine ⟨_, rfl, .inl ⟨rfl, _, SqL.of hCi⟩, _, rfl, _, rfl, tr, rfl, ⟨_, SqT.of htr⟩, fun D hD => ?_⟩
        refine lc_f (walk_tup (K := K) (a := tr) (xs := rs)) (fun j => e.2.2[j]?.map fun r : Ref => .str r.1) (by omega) hD (fun H' e' => SqT.of (e' _ _ htr)) ?_ ?_
        · rintro j y Ha Hb Nx Ny hj ea ⟨rfl, hy⟩ q1 q2
          obtain ⟨r, hr, hTr⟩ := (hrs.mono (KT.of ea)).getM hy
          obtain ⟨tt, rfl, htt⟩ := refD_inv hTr
          refine ⟨tt, _, rfl, SqT.of htt, rfl, _, _, rfl, _, _, rfl, rfl, rfl, tYes_if ?_⟩
          exact ⟨_, rfl, q1 _ _ _ (by rw [hr]; rfl) (.str _) (Same.refl _)⟩
        rintro cs G5 hD5 hC5 hcl5 e5
        rw [hlr, range_map] at hC5
        have hcse : cs = (e.2.2.map (·.1)).map V.str := by
          refine TdAll.strs_inv (H := G5) ?_
          rw [List.map_map]
          exact hC5
        subst hcse
        refine ⟨sizeL (by show 2 ≤ 100000; decide), fun T0 hT0 => ?_⟩
        have e6 := Same.upd (o := .tup [.str e.1, .ref D]) (Same.refl G5) hT0
        have hT6 : upd G5 T0 (.tup [.str e.1, .ref D]) T0 = some (.tup [.str e.1, .ref D]) := upd_same
        have hD6 := e6 _ _ hD5
        have hC6 := (e5.trans e6) _ _ hCi
        have nD : D ≠ CL := fun z => by rw [z, hCi] at hD; cases hD
        have nT : T0 ≠ CL := fun z => by rw [z, e5 _ _ hCi] at hT0; cases hT0
        generalize upd G5 T0 (.tup [.str e.1, .ref D]) = G6 at *
        refine ⟨CL, cvs, _, rfl, rfl, hC6, sizeLt (by omega), ?_⟩
        refine ⟨_, _, _, cvs ++ [.ref T0], rfl, upd_same, by rw [List.length_append, List.length_singleton, hcl], hil, fun j v e' hv he' => ?_, fun c o hc => ?_⟩
        · rcases Nat.lt_or_ge j cvs.length with h | h
          · rw [List.getElem?_append_left h] at hv
            exact ((hcv j v e' hv he').same (e5.trans e6)).upd
          · have hj : j = cvs.length := by
              have := (List.getElem?_eq_some_iff.mp hv).1
              rw [List.length_append, List.length_singleton] at this
              omega
            subst hj
            rw [List.getElem?_append_right (Nat.le_refl _), Nat.sub_self] at hv
            cases hv
            rw [hcl, he] at he'
            cases he'
            exact ColAt.upd ⟨T0, D, rfl, nT, nD, hT6, hD6⟩
        · rw [upd_ne (ne_of_none hc hCL)]
          exact (e5.trans e6) _ _ (ei _ _ hc)
      rintro σ G5 ⟨o6, o7, o8, cvs, rfl, hC5, hcl, _, hcv, e5⟩
      have hclp : cvs.length = pl.length := by omega
      have hST5 := e5 _ _ hST3
      have hP5 := e5 _ _ hP3
      have hT5 := hT3.mono (KT.of e5)
      have e05 := e03.trans e5
      clear hT3 hx4
      refine ⟨_, rfl, ST, _, rfl, .inl (SqL.of hST5), _, rfl, by omega, by omega, for_range (lo := 0) (n := acc.length) (fun k σ Hi => ∃ (o4 o6 o7 o8 o9 o10 : Option V), σ = [some (.ref t), some (.str x), some (.ref P), some (.ref ST), o4, some (.ref CL), o6, o7, o8, o9, o10, none, none, none, none] ∧ badAt pl 0 ((stsOf x).map Step.d) = badAt pl k (((stsOf x).map Step.d).drop k) ∧ Same G5 Hi) ?_ ?_ ?_⟩
      · exact ⟨_, _, _, _, _, _, rfl, rfl, Same.refl _⟩
      · rintro k σ Hi hk ⟨o4, o6, o7, o8, o9, o10, rfl, hbk, ei⟩
        have hks : k < (stsOf x).length := by omega
        have hSTi := ei _ _ hST5
        have hCi := ei _ _ hC5
        obtain ⟨s, hdd, hTd⟩ := (hT5.mono (KT.of ei)).getM (List.getElem?_eq_getElem hk)
        have hba := badAt_at (pl := pl) (ds := (stsOf x).map Step.d) (i := k) (d := s.d) (by rw [List.getElem?_map, hdd]; rfl)
        have hsn := hnice s (List.mem_of_getElem? hdd)
        rw [stepB_known hsn] at hba
        have hix : atI acc ((0 : Int) + (k : Nat)) = some acc[k] := by rw [show (0 : Int) + (k : Nat) = ((k : Nat) : Int) by omega]; exact atI_nat (List.getElem?_eq_getElem hk)
        generalize acc[k] = w at hTd hix
        obtain ⟨tt, rfl, htt⟩ := Step.td hTd
        have hs1 : s.vs[1]? = some (.str s.t) := by cases s <;> rfl
        have hs0 : s.vs[0]? = some (.str s.w) := by cases s <;> rfl
        refine ⟨_, rfl, _, rfl, ST, _, _, _, rfl, rfl, SqL.of hSTi, hix, ?_⟩
        refine ⟨_, rfl, CL, rfl, ⟨_, SqL.of hCi⟩, fun D hD => ?_⟩
        refine lc_list (K := K) (a := CL) (xs := cvs) (fun i Hj => ∃ ys : List V, ys.length ≤ i ∧ Hj D = some (.lst ys) ∧ (∀ v ∈ ys, ∃ e ∈ pl, e.1 = s.t ∧ ∃ l, v = .ref l ∧ Hi l = some (.lst ((e.2.2.map (·.1)).map V.str))) ∧ (∀ e ∈ pl.take i, e.1 = s.t → ys ≠ []) ∧ Same Hi Hj) ?_ ?_ ?_ ?_
        · exact ⟨[], Nat.le_refl _, upd_same, by simp, by simp, Same.upd (Same.refl _) hD⟩
        · rintro i Hj _ ⟨_, _, _, _, _, e⟩
          exact SqL.of (e _ _ hCi)
        · rintro i y Hj hy ⟨ys, hyl, hDj, hy1, hy2, e⟩
          have hicl : i < cvs.length := (List.getElem?_eq_some_iff.mp hy).1
          have hil : i < pl.length := by omega
          have hple : pl[i]? = some pl[i] := List.getElem?_eq_getElem hil
          obtain ⟨T1, l, rfl, _, _, hT1, hl1⟩ := (hcv i y _ hy hple).same ei
          have hmem := List.getElem_mem hil
          have htk := List.take_succ_eq_append_getElem hil
          generalize pl[i] = e0 at *
          refine ⟨T1, _, rfl, SqT.of (e _ _ hT1), rfl, _, _, rfl, _, _, rfl, rfl, rfl, ?_⟩
          refine ⟨_, rfl, _, rfl, tt, _, _, _, rfl, rfl, SqT.of (e _ _ htt), atI_nat (j := 1) hs1, rfl, _, rfl, ite2 (fun c => ?_) (fun c => ?_)⟩
          · have c : e0.1 = s.t := V.str.inj (of_decide_eq_true c)
            refine ⟨_, rfl, ys, hDj, sizeLt (by omega), ys ++ [.ref l], by rw [List.length_append, List.length_singleton]; omega, upd_same, ?_, ?_, Same.upd e hD⟩
            · intro v hv
              rcases List.mem_append.mp hv with h | h
              · exact hy1 v h
              · rw [List.mem_singleton.mp h]
                exact ⟨e0, hmem, c, l, rfl, hl1⟩
            · intro _ _ _ z
              simp at z
          · refine ⟨ys, by omega, hDj, hy1, fun e1 he hn => ?_, e⟩
            rw [htk] at he
            rcases List.mem_append.mp he with h | h
            · exact hy2 e1 h hn
            · rw [List.mem_singleton.mp h] at hn
              exact absurd (decide_eq_true (congrArg V.str hn)) c
        rintro G6 ⟨ys, hyl, hD6, hy1, hy2, e6⟩
        rw [hclp, List.take_length] at hy2
        have e56 := ei.trans e6
        have e06 := e05.trans e56
        have bad : badAt pl 0 ((stsOf x).map Step.d) = some k → ∀ L H1 v, Same G6 H1 → H1 L = none → v = V.int ((0 : Int) + (k : Nat)) → Q (.ref L) (upd H1 L (.lst [.str "step", v, .bl true, .bl true, .bl false])) := fun hb L H1 v e1 hL hv => by
          have ee := e06.trans e1
          refine q L _ _ (ee.free hL) upd_same ?_ (Same.upd ee (ee.free hL))
          rw [dueP_step hbad hb]
          refine .cons (.str _) (.cons ?_ (.cons (.bl _) (.cons (.bl _) (.cons (.bl _) .nil))))
          rw [hv, show (0 : Int) + (k : Nat) = ((k : Nat) : Int) by omega]
          exact .int _
        refine ⟨_, rfl, _, _, rfl, rfl, _, rfl, ite2 (fun c => ?_) (fun c => ?_)⟩
        · have h20 : 20 ≤ k := by
            have : (20 : Int) ≤ (0 : Int) + (k : Nat) := of_decide_eq_true c
            omega
          rw [if_pos (.inl h20)] at hba
          exact iteT ⟨_, rfl, sizeL (by show 5 ≤ 100000; decide), fun L hL => bad (hbk.trans hba) L _ _ (Same.refl _) hL rfl⟩
        have h20 : k < 20 := by
          rcases Nat.lt_or_ge k 20 with z | z
          · exact z
          · exact absurd (decide_eq_true (show (20 : Int) ≤ (0 : Int) + (k : Nat) by omega)) c
        refine ⟨_, rfl, sizeL (by show 0 ≤ 100000; decide), fun E1 hE1 => ?_⟩
        have e7 := Same.upd (o := .lst []) (Same.refl G6) hE1
        have hE7 : upd G6 E1 (.lst []) E1 = some (.lst []) := upd_same
        generalize upd G6 E1 (.lst []) = G7 at *
        have hD7 := e7 _ _ hD6
        have htt7 := (e6.trans e7) _ _ htt
        have hy7 : ∀ v ∈ ys, ∃ e ∈ pl, e.1 = s.t ∧ ∃ l, v = .ref l ∧ G7 l = some (.lst ((e.2.2.map (·.1)).map V.str)) := fun v hv => by
          obtain ⟨e, he, h1, l, h2, h3⟩ := hy1 v hv
          exact ⟨e, he, h1, l, h2, (e6.trans e7) _ _ h3⟩
        obtain ⟨ds, hds, hdl, hdf⟩ := dpAll_cols (K := K) g hy7
        have heq : PyData.eqv (.list ds) (.list []) = decide (ys = []) := by
          cases ds with
          | nil =>
            have : ys = [] := List.length_eq_zero_iff.mp hdl.symm
            rw [this]
            rfl
          | cons d r =>
            have : ys ≠ [] := fun z => by rw [z] at hdl; simp at hdl
            rw [decide_eq_false this]
            simp [PyData.eqv, PyData.eqvAll]
        refine ⟨.list ds, .list [], Dp.lst (SqL.of hD7) hds, Dp.lst (SqL.of hE7) .nil, (Fine.lst hdf).sh (by decide), nil_fine.sh (by decide), _, rfl, ?_⟩
        rw [heq]
        refine ite2 (fun c2 => ?_) (fun c2 => ?_)
        · have c2 : ys = [] := of_decide_eq_true c2
          have hno : ∀ e ∈ pl, e.1 ≠ s.t := fun e he z => hy2 e he z c2
          have hkn : s.known pl = false := by
            cases s with
            | load n m b =>
              refine decide_eq_false fun z => ?_
              obtain ⟨e, he, h1⟩ := List.mem_map.mp z
              exact hno e he h1
            | col w n c =>
              refine List.any_eq_false.mpr fun e he z => ?_
              simp only [Bool.and_eq_true, decide_eq_true_eq] at z
              exact hno e he z.1
          rw [if_pos (.inr hkn)] at hba
          exact iteT ⟨_, rfl, sizeL (by show 5 ≤ 100000; decide), fun L hL => bad (hbk.trans hba) L _ _ e7 hL rfl⟩
        have c2 : ys ≠ [] := fun z => c2 (decide_eq_true z)
        obtain ⟨y0, yr, rfl⟩ : ∃ y0 yr, ys = y0 :: yr := by
          match ys, c2 with
          | [], h => exact absurd rfl h
          | a :: b, _ => exact ⟨a, b, rfl⟩
        obtain ⟨e0, he0, hn0, l0, rfl, hl0⟩ := hy7 _ List.mem_cons_self
        have ok : s.known pl = true → badAt pl 0 ((stsOf x).map Step.d) = badAt pl (k + 1) (((stsOf x).map Step.d).drop (k + 1)) := fun hk => by
          rw [hbk, hba, if_neg]
          rintro (z | z)
          · omega
          · rw [hk] at z
            cases z
        cases s with
        | load n m b =>
          refine ⟨_, rfl, tt, _, _, _, rfl, rfl, SqT.of htt7, atI_nat (j := 0) hs0, rfl, _, rfl, ?_⟩
          refine ifSame (iteF ⟨_, _, _, _, _, _, rfl, ok ?_, e56.trans e7⟩)
          exact decide_eq_true (List.mem_map.mpr ⟨e0, he0, hn0⟩)
        | col w n c =>
          refine ⟨_, rfl, tt, _, _, _, rfl, rfl, SqT.of htt7, atI_nat (j := 0) hs0, rfl, _, rfl, ?_⟩
          have hw : V.str w ≠ V.str "load" := fun z => cols_ne hsn.1 (V.str.inj z)
          rw [show decide (V.str (Step.col w n c).w = V.str "load") = false from decide_eq_false hw]
          refine iteT ⟨_, rfl, tt, _, _, _, rfl, rfl, SqT.of htt7, atI_nat (j := 2) rfl, _, rfl, D, _, _, _, rfl, rfl, SqL.of hD7, atI_nat (j := 0) rfl, l0, _, rfl, .inl (SqL.of hl0), rfl, by simp [flatV], ?_⟩
          have hkn : (Step.col w n c).known pl = decide (c ∈ e0.2.2.map (·.1)) := by
            rw [Bool.eq_iff_iff, decide_eq_true_iff]
            constructor
            · intro h
              obtain ⟨e, he, h⟩ := List.any_eq_true.mp h
              simp only [Bool.and_eq_true, decide_eq_true_eq] at h
              obtain rfl := uniqN g he he0 (h.1.trans hn0.symm)
              exact h.2
            · intro h
              refine List.any_eq_true.mpr ⟨e0, he0, ?_⟩
              show (decide (e0.1 = n) && decide (c ∈ e0.2.2.map (·.1))) = true
              rw [Bool.and_eq_true, decide_eq_true_iff, decide_eq_true_iff]
              exact ⟨hn0, h⟩
          have hiv : (!inV (.str c) ((e0.2.2.map (·.1)).map V.str)) = !(Step.col w n c).known pl := by rw [inV_strs, hkn]
          refine ⟨_, rfl, ite2 (fun c3 => ?_) (fun c3 => ?_)⟩
          · have c3 : (!inV (.str c) ((e0.2.2.map (·.1)).map V.str)) = true := c3
            rw [hiv] at c3
            have hkn : (Step.col w n c).known pl = false := by simpa using c3
            rw [if_pos (.inr hkn)] at hba
            exact ⟨_, rfl, sizeL (by show 5 ≤ 100000; decide), fun L hL => bad (hbk.trans hba) L _ _ e7 hL rfl⟩
          · have c3 : ¬ (!inV (.str c) ((e0.2.2.map (·.1)).map V.str)) = true := c3
            rw [hiv] at c3
            have hkn : (Step.col w n c).known pl = true := by simpa using c3
            exact ⟨_, _, _, _, _, _, rfl, ok hkn, e56.trans e7⟩
      rintro σ G6 ⟨o4, o6, o7, o8, o9, o10, rfl, hbk, e6⟩
      have hb0 : badAt pl 0 ((stsOf x).map Step.d) = none := by
        rw [hbk, show acc.length = ((stsOf x).map Step.d).length by rw [List.length_map, hslen]]
        exact badAt_end
      have hP6 := e6 _ _ hP5
      have hST6 := e6 _ _ hST5
      have hT6 := hT5.mono (KT.of e6)
      have e06 := e05.trans e6
      refine ⟨_, rfl, ST, _, rfl, .inl ⟨SqL.of hST6, fun tl htl => ?_⟩⟩
      have e7 := Same.upd (o := .tup acc) (Same.refl G6) htl
      have htl7 : upd G6 tl (.tup acc) tl = some (.tup acc) := upd_same
      generalize upd G6 tl (.tup acc) = G7 at *
      have hP7 := e7 _ _ hP6
      have hT7 := hT6.mono (KT.of e7)
      refine ⟨_, rfl, P, _, _, _, rfl, rfl, SqL.of hP7, atI_nat (j := 0) rfl, rfl, sizeL (by show 3 ≤ 100000; decide), fun L hL => ?_⟩
      have ee := e06.trans e7
      refine q L _ _ (ee.free hL) upd_same ?_ (Same.upd ee (ee.free hL))
      rw [dueP_read hbad hb0, hko]
      refine .cons (.str _) (.cons (.tup ?_ (hT7.mono ?_)) (.cons ?_ .nil))
      · rw [upd_ne (fun z => by rw [z, hL] at htl7; cases htl7)]
        exact htl7
      · exact KT.of (Same.upd (Same.refl G7) hL)
      · have hd : ∀ c : Str, decide (V.str c = V.str "kept") = decide (some c = some ("kept" : Str)) := fun c => decide_eq_decide.mpr ⟨fun z => congrArg some (V.str.inj z), fun z => congrArg V.str (Option.some.inj z)⟩
        rw [← hd]
        exact .bl _
end My
namespace My
open PySem L2
def spLaw (K : PySem.W.Frag) : Sp := fun vs H Q _ => ∃ (a : Addr) (ns : List Int), vs = [.ref a] ∧ SqL K H a (ns.map V.int) ∧ ns.length ≤ 63 ∧ ∀ H', Q (.bl true) H'
theorem len_law {K : PySem.W.Frag} : ∀ vs H Q E, spLaw K vs H Q E → vs.length = ["script"].length := by
  rintro vs H Q E ⟨a, ns, rfl, _⟩
  rfl
theorem cut_len (ns : List Int) (lo hi : Nat) : (cutV (ns.map V.int) (some (lo : Int)) (some (hi : Int))).length ≤ hi - lo := by
  show (((ns.map V.int).drop _).take _).length ≤ hi - lo
  rw [List.length_take, HT.sIx_nat, HT.sIx_nat, List.length_drop]
  omega
theorem cut_ints (ns : List Int) (lo hi : Option Int) : ∀ v ∈ cutV (ns.map V.int) lo hi, ∃ z, v = V.int z := fun v hv => by
  have := List.mem_of_mem_drop (List.mem_of_mem_take hv)
  obtain ⟨z, _, e⟩ := List.mem_map.mp this
  exact ⟨z, e.symm⟩
theorem badAt_ok {pl : Plan} : ∀ {ds : List PyData} {i : Nat}, (∀ d ∈ ds, StepD pl d) → i + ds.length ≤ 20 → badAt pl i ds = none
  | [], _, _, _ => rfl
  | d :: r, i, h, l => by
    unfold badAt
    rw [List.length_cons] at l
    rw [if_neg]
    · exact badAt_ok (fun x hx => h x (List.mem_cons_of_mem _ hx)) (by omega)
    · rintro (z | z)
      · omega
      · rw [step_stepB (h d List.mem_cons_self)] at z
        cases z
theorem nice_all {pl : Plan} {ts : List Step} (g : Good pl) (h : ∀ d ∈ ts.map Step.d, StepD pl d) : ∀ s ∈ ts, s.Nice := fun s hs => by
  obtain ⟨s', e, o⟩ := StepD.ex (h _ (List.mem_map_of_mem hs))
  rw [step_inj _ _ e]
  exact o.nice g
theorem nm_cd {x : Str} (h : Nm x) : ∀ c ∈ cd x, c < 0x110000 := fun c hc => Nat.lt_of_le_of_lt (h.az c hc).2 (by decide)
theorem script_cd {b : Bool} {ts : List Step} (hn : ∀ s ∈ ts, s.Nice) : ∀ c ∈ cd (scriptS b ts), c < 0x110000 := fun c hc => by
  have hc : c ∈ TL.tl (Txt.join "; " (keptS b :: ts.map stepT)) := hc
  rcases mem_join hc with m | ⟨w, hw, m⟩
  · rw [tl_semi] at m
    simp only [List.mem_cons, List.not_mem_nil, or_false] at m
    rcases m with rfl | rfl <;> decide
  rcases List.mem_cons.mp hw with rfl | hw
  · exact nm_cd (keptS_nm b) c m
  obtain ⟨s, hs, rfl⟩ := List.mem_map.mp hw
  have m : c ∈ TL.tl (Txt.join " " (stepW s)) := m
  rcases mem_join m with m | ⟨w, hw, m⟩
  · rw [tl_space] at m
    simp only [List.mem_cons, List.not_mem_nil, or_false] at m
    rcases m with rfl
    decide
  · exact nm_cd (stepW_nm (hn s hs) w hw) c m
theorem dueP_fine {pl : Plan} (g : Good pl) : ∀ {d : PyData}, Fine 6 (.list (dueP pl d)) := by
  intro d
  have five : ∀ {a b : PyData}, Fine 1 a → Fine 1 b → Fine 6 (.list (fiveD a b)) := fun h1 h2 => (five_fine h1 h2).up (by decide)
  by_cases hd : isStrD d = true
  · obtain ⟨x, rfl⟩ := isStrD_inv hd
    cases hb : badS x with
    | some i =>
      rw [dueP_part hb]
      exact five text_fine (Fine.int _)
    | none =>
      cases ht : badAt pl 0 ((stsOf x).map Step.d) with
      | some i =>
        rw [dueP_step hb ht]
        exact five step_fine (Fine.int _)
      | none =>
        rw [dueP_read hb ht]
        have hf := steps_fine g fun d hd => stepB_step (badAt_none ht d hd)
        refine Fine.lst (n := 5) fun d hd => ?_
        simp only [List.mem_cons, List.not_mem_nil, or_false] at hd
        rcases hd with rfl | rfl | rfl
        · exact (lit_fine _ (by decide +kernel)).up (by decide)
        · exact hf.up (by decide)
        · exact (Fine.bool _).up (by decide)
  · rw [dueP_no (by simpa using hd)]
    exact five text_fine (Fine.int _)
theorem fit_no {d : PyData} (h : ∀ x, d ≠ .str x) : Fit d := fun x e => absurd e (h x)
theorem body_law {P : Program} {w : World} {K : PySem.W.Frag} {mg : Str → Option Value} {base : Heap} {CS CP XCarryError XNoSchema XNoStep XNoText XNoKept XMissing XNoColumn XNoFlag XNoKey XNoRow XNoStops XNoStrokes XNoTable XNotClosed XNothingBegun XNotSafe XNotSame XRefused XTaken XT_MISSING_WORDS XT_COLUMN_STEPS : Addr} (T : Txt K mg CS CP XCarryError XNoSchema XNoStep XNoText XNoKept XMissing XNoColumn XNoFlag XNoKey XNoRow XNoStops XNoStrokes XNoTable XNotClosed XNothingBegun XNotSafe XNotSame XRefused XTaken XT_MISSING_WORDS XT_COLUMN_STEPS) : BodyOk P w K mg base 11 ["script", "tables", "frame", "row", "flag", "good", "cell", "store", "written", "due", "k"] "law" s_law (spLaw K) := by
  have c_Schema := ok_Schema_init (P := P) (w := w) (base := base) T
  have c_law_cell_at := ok_law_cell_at (P := P) (w := w) (base := base) T
  have c_law_draw := ok_law_draw (P := P) (w := w) (base := base) T
  have c_law_due := ok_law_due (P := P) (w := w) (base := base) T
  have c_law_spoilt := ok_law_spoilt (P := P) (w := w) (base := base) T
  have c_law_step := ok_law_step (P := P) (w := w) (base := base) T
  have c_law_store := ok_law_store (P := P) (w := w) (base := base) T
  have c_law_tables := ok_law_tables (P := P) (w := w) (base := base) T
  have c_law_text := ok_law_text (P := P) (w := w) (base := base) T
  have c_law_told := ok_law_told (P := P) (w := w) (base := base) T
  intro f cdv A outer s H vs Q E hr h
  · obtain ⟨a, ns, rfl, hs, hl, q⟩ := h
    refine ⟨_, (pss_cons (ps_set (i := 1) sc_law.nd rfl (by first | exact Or.inl rfl | exact Or.inr rfl) (pe_callC c_law_tables (hr.mono (by decide)) (pa_cons (pe_callC c_law_store (hr.mono (by decide)) (pa_cons (pe_callC c_law_cell_at (hr.mono (by decide)) (pa_cons (pv 0) (pa_cons pe_int pa_nil))) pa_nil)) pa_nil)))
      (pss_cons (ps_set (i := 2) sc_law.nd rfl (by first | exact Or.inl rfl | exact Or.inr rfl) (pe_makeX c_Schema (hr.mono (by decide)) takes0 (pa_cons (pv 1) pa_nil)))
      (pss_cons (ps_setLc (i := 3) (own := [("cell", 6)]) rfl sc_law.nd rfl rfl (sw_true rfl rfl rfl (by decide +kernel)) (kPiL (K := K) (pe_slice sl_list (pv 0) (po_some pe_int) (po_some pe_int))) (blkOk_by (N := ["script", "tables", "frame", "row", "flag", "good", "cell", "store", "written", "due", "k"]) (sc := defScope s_law) (own := [("cell", 6)]) (by decide +kernel)) (fun _ _ _ _ _ => (pg_name (i := 6) sc_law.nd rfl (by first | exact Or.inl rfl | exact Or.inr rfl))) (fun _ _ _ _ _ => pts_nil) (fun _ _ _ _ _ => (pe_callC c_law_step (hr.mono (by decide)) (pa_cons (pe_callC c_law_store (hr.mono (by decide)) (pa_cons (pv 6) pa_nil)) (pa_cons (pv 1) pa_nil)))))
      (pss_cons (ps_set (i := 4) sc_law.nd rfl (by first | exact Or.inl rfl | exact Or.inr rfl) (pe_cmpR op_eq (pe_op op_mul (pe_op op_fdiv (pe_callB (kLen (K := K)) (by rfl) T.n_len PySem.boot_len (pa_cons (pv 3) pa_nil)) pe_int) pe_int) (pe_callB (kLen (K := K)) (by rfl) T.n_len PySem.boot_len (pa_cons (pv 3) pa_nil)) (nomark _)))
      (pss_cons (ps_set (i := 5) sc_law.nd rfl (by first | exact Or.inl rfl | exact Or.inr rfl) (pe_callC c_law_text (hr.mono (by decide)) (pa_cons (pv 3) (pa_cons (pv 4) pa_nil))))
      (pss_cons (ps_for PassesOwn.never rfl (kPiL (K := K) (pe_op op_cat (pe_slice sl_list (pv 0) (po_some pe_int) (po_some pe_int)) (pe_lst (pa_cons (pe_callC c_law_cell_at (hr.mono (by decide)) (pa_cons (pv 0) (pa_cons pe_int pa_nil))) pa_nil)))) (pg_name (i := 6) sc_law.nd rfl (by first | exact Or.inl rfl | exact Or.inr rfl))
      (pss_cons (ps_set (i := 7) sc_law.nd rfl (by first | exact Or.inl rfl | exact Or.inr rfl) (pe_callC c_law_store (hr.mono (by decide)) (pa_cons (pv 6) pa_nil)))
          (pss_cons (ps_set (i := 8) sc_law.nd rfl (by first | exact Or.inl rfl | exact Or.inr rfl) (pe_callC c_law_spoilt (hr.mono (by decide)) (pa_cons (pv 7) (pa_cons (pv 1) (pa_cons (pv 5) pa_nil)))))
          (Evl.pss_cut (ps_if (pt_cmpR op_eq (pe_callC c_law_draw (hr.mono (by decide)) (pa_cons (pv 7) (pa_cons pe_int pa_nil))) pe_int (nomark _)) (pss_one (ps_set (i := 8) sc_law.nd rfl (by first | exact Or.inl rfl | exact Or.inr rfl) (pe_callC c_law_spoilt (hr.mono (by decide)) (pa_cons (pv 7) (pa_cons (pv 1) (pa_cons (pv 8) pa_nil)))))) pss_nil)
          (Evl.pss_cut (ps_if (pt_cmpR op_eq (pe_callC c_law_draw (hr.mono (by decide)) (pa_cons (pv 7) (pa_cons pe_int pa_nil))) pe_int (nomark _)) (pss_one (ps_set (i := 8) sc_law.nd rfl (by first | exact Or.inl rfl | exact Or.inr rfl) (pe_ix (kIxL (K := K)) (pe_lst (pa_cons pe_non (pa_cons pe_int (pa_cons (pe_lst (pa_cons (pv 8) pa_nil)) (pa_cons (pe_tup (pa_cons (pv 8) pa_nil)) (pa_cons pe_bl pa_nil)))))) (pe_callC c_law_draw (hr.mono (by decide)) (pa_cons (pv 7) (pa_cons pe_int pa_nil))) (fun _ _ => rfl)))) pss_nil)
          (pss_cons (ps_set (i := 9) sc_law.nd rfl (by first | exact Or.inl rfl | exact Or.inr rfl) (pe_callC c_law_due (hr.mono (by decide)) (pa_cons (pv 1) (pa_cons (pv 8) pa_nil))))
          (pss_cons (ps_for PassesOwn.never rfl (pi_range1 (by rfl) T.n_range (pa_cons pe_int pa_nil)) (pg_name (i := 10) sc_law.nd rfl (by first | exact Or.inl rfl | exact Or.inr rfl))
      (pss_one (ps_if (pt_cmpR (kNeD (K := K) hr.units) (pe_callC c_law_told (hr.mono (by decide)) (pa_cons (pv 2) (pa_cons (pv 8) pa_nil))) (pv 9) (nomark _)) (pss_one (ps_ret pe_bl)) pss_nil)))
          (pss_one (ps_if (pt_cmpR (kNeD (K := K) hr.units) (pe_callC c_law_told (hr.mono (by decide)) (pa_cons (pv 2) (pa_cons (pv 5) pa_nil))) (pe_lst (pa_cons pe_str (pa_cons (pe_callTy (kTup (K := K)) (by rfl) T.n_tuple (by decide +kernel) (pa_cons (pv 3) pa_nil)) (pa_cons (pv 4) pa_nil)))) (nomark _)) (pss_one (ps_ret pe_bl)) pss_nil)))))))))
      (pss_one (ps_ret pe_bl)))))))), ?_⟩
    refine ⟨_, rfl, a, ns, 0, rfl, hs, fun z0 => ⟨z0, rfl, fun st0 H1 hst0 e1 hS1 => ⟨st0, 0, rfl, hS1.mono (by decide), fun tv pl H2 hT g _ e2 => ?_⟩⟩⟩
    have s2 : Same H H2 := Same.fr1 e1 e2 hst0
    clear e1 e2 hS1 hst0
    refine ⟨_, rfl, fun fr frd nx ndx nex => ?_⟩
    show spSchX CS XNoSchema [.ref fr, tv] _ _ _
    refine spSchX_good g (hT.kt_same (Same.upd (Same.upd (Same.refl H2) ndx) nx)) upd_same fun H4 de S4 hde g4 => ⟨rfl, ?_⟩
    have w4 : Same H2 H4 := Same.made' nx ndx g4
    have s4 := s2.trans w4
    have SF := S4.at
    have hT4 := hT.kt_same w4
    refine ⟨_, rfl, _, rfl, _, rfl, a, _, rfl, s4.seq hs, fun q1 hq1 => ?_⟩
    have hci := cut_ints ns (some 1) (some 21)
    have hcl2 := cut_len ns 1 21
    have hcl3 : (cutV (ns.map V.int) (some 1) (some 21)).length ≤ 20 := hcl2
    generalize cutV (ns.map V.int) (some 1) (some 21) = zs at *
    have t1 := Same.upd (o := .lst zs) (Same.refl H4) hq1
    have hq11 : upd H4 q1 (.lst zs) q1 = some (.lst zs) := upd_same
    generalize upd H4 q1 (.lst zs) = J1 at *
    have hTJ := hT4.kt_same t1
    refine ⟨q1, rfl, ⟨_, SqL.of hq11⟩, fun D hD => ?_⟩
    refine lc_list (K := K) (a := q1) (xs := zs) (fun i Hi => i ≤ zs.length ∧ ∃ ys ds, Hi D = some (.lst ys) ∧ ys.length = i ∧ TdAll Hi ys ds ∧ (∀ d ∈ ds, StepD pl d) ∧ Same J1 Hi) ?_ ?_ ?_ ?_
    · exact ⟨Nat.zero_le _, [], [], upd_same, rfl, .nil, by simp, Same.upd (Same.refl _) hD⟩
    · rintro i Hi _ ⟨_, _, _, _, _, _, _, e⟩
      exact SqL.of (e _ _ hq11)
    · rintro i y Hi hix ⟨hi, ys, ds, hDi, hyl, hTy, hst', e⟩
      have hil : i < zs.length := (List.getElem?_eq_some_iff.mp hix).1
      obtain ⟨z, rfl⟩ := hci y (List.mem_of_getElem? hix)
      refine ⟨rfl, tYes_if ?_⟩
      refine ⟨_, rfl, z, rfl, fun st1 K1 hst1 f1 hK1 => ⟨_, rfl, st1, tv, pl, 0, rfl, (hTJ.kt_same e).kt_same f1, g, hK1.mono (by decide), fun v d K2 hv hd _ f2 => ?_⟩⟩
      have f12 : Same Hi K2 := Same.fr1 f1 f2 hst1
      refine ⟨ys, f12 _ _ hDi, sizeLt (by omega), hil, ys ++ [v], ds ++ [d], upd_same, by simp [hyl], ?_, fun x hx => ?_, Same.upd (e.trans f12) hD⟩
      · have k3 : KT K2 (upd K2 D (.lst (ys ++ [v]))) := (KT.refl K2).updL (f12 _ _ hDi)
        exact ((hTy.mono (KT.of f12)).mono k3).snoc (hv.mono k3)
      · rcases List.mem_append.mp hx with h | h
        · exact hst' x h
        · rw [List.mem_singleton.mp h]; exact hd
    rintro J2 ⟨_, ys, ds, hDJ, hyl, hTy, hst', eJ⟩
    have hdl : ds.length ≤ 20 := by rw [← hTy.length]; omega
    obtain ⟨ts, rfl, hts⟩ := steps_ex hst'
    have l20 : ts.length ≤ 20 := by rwa [List.length_map] at hdl
    have hn := nice_all g hst'
    have hyl20 : ys.length ≤ 20 := by rw [hTy.length]; exact hdl
    have w24 := t1.trans eJ
    have s5 := s4.trans w24
    have SF5 := SF.same w24
    have hT5 := hT4.kt_same w24
    clear hcl2 hcl3 hci hTJ hq11 t1 eJ
    refine ⟨_, rfl, D, _, rfl, .inl (SqL.of hDJ), _, _, rfl, rfl, ⟨by omega, by omega⟩, _, _, rfl, rfl, .inl ⟨by omega, by omega⟩, _, rfl, D, _, rfl, .inl (SqL.of hDJ), rfl, ?_⟩
    generalize decide (V.int ((ys.length : Int) / 2 * 2) = V.int (ys.length : Int)) = b
    refine ⟨_, rfl, _, rfl, D, ys, b, ts, rfl, hDJ, hTy, hn, l20, fun H5 e5 => ?_⟩
    have s6 := s5.trans e5
    have SF6 := SF5.same e5
    have hT6 := hT5.kt_same e5
    have hD6 := e5 _ _ hDJ
    have hTy6 := hTy.mono (KT.of e5)
    have hgl := scriptS_len (b := b) hn l20
    have hgb := badS_script (b := b) hn
    have hgs := stsOf_script (b := b) hn
    have hgk := kpOf_script (b := b) hn
    have hga := badAt_ok (i := 0) hst' (by omega)
    have hgc : Cods (scriptS b ts) := script_cd hn
    have hgp : Parts 36 (scriptS b ts) := fun p hp => by
      rw [scriptS_split hn] at hp
      rcases List.mem_cons.mp hp with rfl | hp
      · rw [keptS_len]
        decide
      · obtain ⟨s, hs, rfl⟩ := List.mem_map.mp hp
        exact stepT_len (hn s hs)
    have hgf : Fit (.str (scriptS b ts)) := fun x e => by
      cases e
      exact ⟨by omega, fun p hp => Nat.le_trans (hgp p hp) (by decide), hgc⟩
    have hgd : dueP pl (.str (scriptS b ts)) = [.str "read", .tuple (ts.map Step.d), .bool b] := by
      rw [dueP_read hgb (by rw [hgs]; exact hga), hgs, hgk]
    generalize scriptS b ts = good at *
    refine ⟨_, rfl, _, rfl, _, rfl, a, _, rfl, s6.seq hs, fun X1 hX1 => ?_⟩
    have hci := cut_ints ns (some 21) (some 37)
    have hcl2 := cut_len ns 21 37
    have hcl3 : (cutV (ns.map V.int) (some 21) (some 37)).length ≤ 16 := hcl2
    generalize cutV (ns.map V.int) (some 21) (some 37) = zs at *
    have t1 := Same.upd (o := .lst zs) (Same.refl H5) hX1
    have x1 : upd H5 X1 (.lst zs) X1 = some (.lst zs) := upd_same
    generalize upd H5 X1 (.lst zs) = G1 at *
    refine ⟨_, rfl, a, ns, 1, rfl, (s6.trans t1).seq hs, fun z1 => ⟨sizeL (by show 1 ≤ 100000; decide), fun X2 hX2 => ?_⟩⟩
    have t2 := Same.upd (o := .lst [.int z1]) (Same.refl G1) hX2
    have x2 : upd G1 X2 (.lst [.int z1]) X2 = some (.lst [.int z1]) := upd_same
    have x12 := t2 _ _ x1
    generalize upd G1 X2 (.lst [.int z1]) = G2 at *
    refine ⟨X1, X2, _, _, rfl, rfl, x12, x2, sizeL (by show _ + 1 ≤ _; omega), fun X3 hX3 => ?_⟩
    have hint : ∀ v ∈ zs ++ [V.int z1], ∃ z, v = V.int z := fun v hv => by
      rcases List.mem_append.mp hv with h | h
      · exact hci v h
      · exact ⟨z1, List.mem_singleton.mp h⟩
    have t3 := Same.upd (o := .lst (zs ++ [.int z1])) (Same.refl G2) hX3
    have x3 : upd G2 X3 (.lst (zs ++ [.int z1])) X3 = some (.lst (zs ++ [.int z1])) := upd_same
    generalize upd G2 X3 (.lst (zs ++ [.int z1])) = G3 at *
    have t13 := (t1.trans t2).trans t3
    have hTG := hT6.kt_same t13
    have SFG := SF6.same t13
    have hDG := t13 _ _ hD6
    have hTyG := hTy6.mono (KT.of t13)
    have sG := s6.trans t13
    generalize zs ++ [V.int z1] = cells at *
    refine ⟨X3, rfl, ⟨_, SqL.of x3⟩, for_list (K := K) (a := X3) (xs := cells) (fun i σ Hi => ∃ (o6 o7 o8 o9 o10 : Option V), σ = [some (.ref a), some tv, some (.ref fr), some (.ref D), some (.bl b), some (.str good), o6, o7, o8, o9, o10] ∧ Same G3 Hi) ?_ ?_ ?_ ?_⟩
    · exact ⟨_, _, _, _, _, rfl, Same.refl _⟩
    · rintro i σ Hi _ ⟨_, _, _, _, _, _, e⟩
      exact SqL.of (e _ _ x3)
    · rintro i y σ Hi hy ⟨o6, o7, o8, o9, o10, rfl, ei⟩
      obtain ⟨z, rfl⟩ := hint y (List.mem_of_getElem? hy)
      have hTi := hTG.kt_same ei
      refine ⟨_, rfl, z, rfl, fun st J1 hst f1 hS1 => ?_⟩
      have hstH : Hi st = none := hst
      have ei1 : Same Hi J1 := f1
      refine ⟨_, rfl, _, rfl, _, rfl, st, tv, pl, good, 900000, 36, rfl, hTi.kt_same ei1, g, hS1.mono (by decide), by omega, hgp, by decide, hgc, fun y J2 hy hS2 f2 => ?_⟩
      obtain ⟨hy1, hy2, hy3⟩ := hy
      have ei2 : Same Hi J2 := Same.fr1 f1 f2 hst
      refine ⟨fun σ' H' => ∃ (y2 : Str), σ' = [some (.ref a), some tv, some (.ref fr), some (.ref D), some (.bl b), some (.str good), some (.int z), some (.ref st), some (.str y2), o9, o10] ∧ y2.length ≤ 6000 ∧ Parts 204 y2 ∧ Cods y2 ∧ StAt H' st 700000 ∧ Same Hi H', ?_, ?_⟩
      · refine ⟨_, rfl, st, 2, 899999, rfl, by decide, by decide, hS2.mono (by decide), fun u J3 u0 u1 hS3 f3 => ⟨rfl, _, rfl, ite2 (fun c => ?_) (fun c => ?_)⟩⟩
        · have f13 : Same Hi J3 := Same.fr1 f1 (f2.trans f3) hst
          refine ⟨_, rfl, _, rfl, _, rfl, st, tv, pl, y, 700000, 92, rfl, hTi.kt_same f13, g, hS3.mono (by decide), by omega, hy2, by decide, hy3, fun y2 J4 hy2' hS4 f4 => ?_⟩
          exact ⟨y2, rfl, by have := hy2'.1; omega, hy2'.2.1, hy2'.2.2, hS4, Same.fr1 f1 ((f2.trans f3).trans f4) hst⟩
        · exact ⟨y, rfl, by omega, fun p hp => Nat.le_trans (hy2 p hp) (by decide), hy3, hS3.mono (by decide), Same.fr1 f1 (f2.trans f3) hst⟩
      rintro σ' J5 ⟨y2, rfl, hyl2, hyp2, hyc2, hS5, e5'⟩
      have hfit : Fit (.str y2) := fun x e => by
        cases e
        exact ⟨by omega, fun p hp => Nat.le_trans (hyp2 p hp) (by decide), hyc2⟩
      refine ⟨fun σ' H' => ∃ (v : V) (d : PyData), σ' = [some (.ref a), some tv, some (.ref fr), some (.ref D), some (.bl b), some (.str good), some (.int z), some (.ref st), some v, o9, o10] ∧ Th H' v d ∧ Fit d ∧ Same Hi H', ?_, ?_⟩
      · refine ⟨_, rfl, st, 10, 699999, rfl, by decide, by decide, hS5.mono (by decide), fun u J6 u0 u1 hS6 f6 => ⟨rfl, _, rfl, ite2 (fun c => ?_) (fun c => ?_)⟩⟩
        · have e6 : Same Hi J6 := fun c o hc => f6 _ _ (ne_of_none hc hstH) (e5' _ _ hc)
          refine ⟨_, rfl, sizeL (by show 1 ≤ 100000; decide), fun A1 hA1 => ?_⟩
          have r1 := Same.upd (o := .lst [.str y2]) (Same.refl J6) hA1
          have k1 : upd J6 A1 (.lst [.str y2]) A1 = some (.lst [.str y2]) := upd_same
          generalize upd J6 A1 (.lst [.str y2]) = J7 at *
          refine ⟨_, rfl, sizeL (by show 1 ≤ 100000; decide), fun A2 hA2 => ?_⟩
          have r2 := Same.upd (o := .tup [.str y2]) (Same.refl J7) hA2
          have k2 : upd J7 A2 (.tup [.str y2]) A2 = some (.tup [.str y2]) := upd_same
          have k12 := r2 _ _ k1
          generalize upd J7 A2 (.tup [.str y2]) = J8 at *
          refine ⟨sizeL (by show 5 ≤ 100000; decide), fun A3 hA3 => ?_⟩
          have r3 := Same.upd (o := .lst [.non, .int 0, .ref A1, .ref A2, .bl true]) (Same.refl J8) hA3
          have k3 : upd J8 A3 (.lst [.non, .int 0, .ref A1, .ref A2, .bl true]) A3 = some (.lst [.non, .int 0, .ref A1, .ref A2, .bl true]) := upd_same
          have k13 := r3 _ _ k12
          have k23 := r3 _ _ k2
          generalize upd J8 A3 (.lst [.non, .int 0, .ref A1, .ref A2, .bl true]) = J9 at *
          have r13 := (r1.trans r2).trans r3
          refine ⟨_, rfl, st, 5, 699998, rfl, by decide, by decide, (hS6.same r13).mono (by decide), fun w J10 w0 w1 hS10 f10 => ?_⟩
          have n3 : A3 ≠ st := (((hS6.same r1).same r2).ne hA3).symm
          have n1 : A1 ≠ st := (hS6.ne hA1).symm
          have n2 : A2 ≠ st := ((hS6.same r1).ne hA2).symm
          have k3' := f10 _ _ n3 k3
          have k1' := f10 _ _ n1 k13
          have k2' := f10 _ _ n2 k23
          have e10 : Same Hi J10 := fun c o hc => f10 _ _ (ne_of_none hc hstH) (r13 _ _ (e6 _ _ hc))
          obtain ⟨m, rfl⟩ : ∃ m : Nat, w = (m : Int) := ⟨w.toNat, by omega⟩
          have hm : m < 5 := by omega
          obtain ⟨v, d, hv, hTh, hSh⟩ : ∃ v d, ([.non, .int 0, .ref A1, .ref A2, .bl true] : List V)[m]? = some v ∧ Th J10 v d ∧ Fit d := by
            match m, hm with
            | 0, _ => exact ⟨_, _, rfl, .non, fit_no (by intro x z; cases z)⟩
            | 1, _ => exact ⟨_, _, rfl, .int 0, fit_no (by intro x z; cases z)⟩
            | 2, _ => exact ⟨_, _, rfl, .lst k1' (.cons (.str _) .nil), fit_no (by intro x z; cases z)⟩
            | 3, _ => exact ⟨_, _, rfl, .tup k2' (.cons (.str _) .nil), fit_no (by intro x z; cases z)⟩
            | 4, _ => exact ⟨_, _, rfl, .bl true, fit_no (by intro x z; cases z)⟩
          exact ⟨A3, _, _, v, rfl, rfl, SqL.of k3', atI_nat hv, v, d, rfl, hTh, hSh, e10⟩
        · have e6 : Same Hi J6 := fun c o hc => f6 _ _ (ne_of_none hc hstH) (e5' _ _ hc)
          exact ⟨.str y2, .str y2, rfl, .str _, hfit, e6⟩
      rintro σ' J6 ⟨v, d, rfl, hTh, hSh, e6⟩
      have hT6' := hTi.kt_same e6
      have SF6' := (SFG.same ei).same e6
      refine ⟨_, rfl, _, rfl, tv, v, pl, d, rfl, hT6', g, hTh, hSh, fun D1 J7 xs1 hD1 hx1 hd1 e7 => ?_⟩
      have df : Fine 6 (.list (dueP pl d)) := dueP_fine g
      have gf : Fine 6 (.list [.str "read", .tuple (ts.map Step.d), .bool b]) := by
        rw [← hgd]
        exact dueP_fine g
      refine ⟨2, rfl, by decide, by decide, for_range (lo := 0) (n := 2) (fun k σ Hk => ∃ (o10 : Option V), σ = [some (.ref a), some tv, some (.ref fr), some (.ref D), some (.bl b), some (.str good), some (.int z), some (.ref st), some v, some (.ref D1), o10] ∧ Same J7 Hk) ?_ ?_ ?_⟩
      · exact ⟨_, rfl, Same.refl _⟩
      · rintro k σ Hk hk ⟨o10, rfl, ek⟩
        refine ⟨_, rfl, _, rfl, fr, v, pl, d, rfl, (SF6'.same e7).same ek, (hTh.same e7).same ek, hSh, fun D2 J8 xs2 hD2 hx2 hd2 e8 => ?_⟩
        have hx18 := (ek.trans e8) _ _ hx1
        have hd18 := hd1.mono (KT.of (ek.trans e8))
        refine ⟨_, rfl, .list (dueP pl d), .list (dueP pl d), Dp.lst (SqL.of hx2) hd2.dp, Dp.lst (SqL.of hx18) hd18.dp, df.sh (by decide), df.sh (by decide), false, by rw [df.self]; rfl, iteF ?_⟩
        exact ⟨_, rfl, ek.trans e8⟩
      rintro σ J8 ⟨o10, rfl, e8⟩
      have e68 := (e6.trans e7).trans e8
      refine ⟨_, rfl, _, rfl, fr, .str good, pl, .str good, rfl, (SF6'.same e7).same e8, .str _, hgf, fun D4 J9 xs4 hD4 hx4 hd4 e9 => ?_⟩
      rw [hgd] at hd4
      have e69 := e68.trans e9
      have eA := ei.trans e69
      have hDA := eA _ _ hDG
      have hTyA := hTyG.mono (KT.of eA)
      refine ⟨_, rfl, D, _, rfl, .inl ⟨SqL.of hDA, fun tl htl => ?_⟩⟩
      have e10 := Same.upd (o := .tup ys) (Same.refl J9) htl
      have htl1 : upd J9 tl (.tup ys) tl = some (.tup ys) := upd_same
      generalize upd J9 tl (.tup ys) = J10 at *
      have hR : Td J10 (.ref tl) (.tuple (ts.map Step.d)) := .tup htl1 (hTyA.mono (KT.of e10))
      refine ⟨_, rfl, sizeL (by show 3 ≤ 100000; decide), fun D5 hD5 => ?_⟩
      have e11 := Same.upd (o := .lst [.str "read", .ref tl, .bl b]) (Same.refl J10) hD5
      have hx5 : upd J10 D5 (.lst [.str "read", .ref tl, .bl b]) D5 = some (.lst [.str "read", .ref tl, .bl b]) := upd_same
      generalize upd J10 D5 (.lst [.str "read", .ref tl, .bl b]) = J11 at *
      have hx4' := (e10.trans e11) _ _ hx4
      have hd4' := hd4.mono (KT.of (e10.trans e11))
      refine ⟨.list [.str "read", .tuple (ts.map Step.d), .bool b], .list [.str "read", .tuple (ts.map Step.d), .bool b], Dp.lst (SqL.of hx4') hd4'.dp, Dp.lst (SqL.of hx5) (TdAll.cons (.str _) (.cons (hR.kt_same e11) (.cons (.bl _) .nil))).dp, gf.sh (by decide), gf.sh (by decide), false, by rw [gf.self]; rfl, iteF ?_⟩
      exact ⟨_, _, _, _, _, rfl, (eA.trans e10).trans e11⟩
    · rintro σ Hi ⟨o6, o7, o8, o9, o10, rfl, ei⟩
      exact q _
end My
namespace My
open PySem L2
theorem fin {l : PySem.W.OpenLaw} {w : World} {K : PySem.W.Frag} {mg : Str → Option Value} {fa : Addr} {CS CP XCarryError XNoSchema XNoStep XNoText XNoKept XMissing XNoColumn XNoFlag XNoKey XNoRow XNoStops XNoStrokes XNoTable XNotClosed XNothingBegun XNotSafe XNotSame XRefused XTaken XT_MISSING_WORDS XT_COLUMN_STEPS : Addr} (T : Txt K mg CS CP XCarryError XNoSchema XNoStep XNoText XNoKept XMissing XNoColumn XNoFlag XNoKey XNoRow XNoStops XNoStrokes XNoTable XNotClosed XNothingBegun XNotSafe XNotSame XRefused XTaken XT_MISSING_WORDS XT_COLUMN_STEPS) (hfa : mg "law" = some (.ref fa)) :
    ∃ fd : FuncData, (∀ (s : Shared) (v : Value), BindsTo s fd ⟨[v], []⟩ [("script", v)]) ∧ ∀ base : Heap, K.In base → base.Ns mainGlobals mg → FnOk l.prog w K mg base CX0 12 fa fd ["script"] (spLaw K) := by
  obtain ⟨f, fd, F, hm, hb⟩ := T.d_law.ex
  obtain rfl : fa = f := Value.ref.inj (Option.some.inj (hfa.symm.trans hm))
  refine ⟨fd, fun s v => ?_, fun base _ _ => F.ok sc_law len_law fun cdv A outer s H vs Q E hr h => body_law T fa cdv A outer s H vs Q E hr h⟩
  obtain ⟨oc, od, kV, doc, pm, an, cdv, ct, osl, rfl, _⟩ := F.ex
  exact .of_eq rfl
theorem walk {l : PySem.W.OpenLaw} {q : Program} {loose : List Str} {XP : (Str → Option Value) → Heap → Prop} {YP : World → Heap → Prop} {d : DefRec} {K : Params → PySem.W.Frag} (hn : l.most = some 63) (hdf : d.params.defaults = [])
    (hY : ∀ (w : World) (h : Heap), YP w h → (K w.params).In h)
    (F : ∀ (w : World) (mg : Str → Option Value) (fa : Addr) (h : Heap), (K w.params).In h → h.Ns mainGlobals mg → mg d.name = some (.ref fa) →
      ∃ fd : FuncData, (∀ (s : Shared) (u : Value), BindsTo s fd ⟨[u], []⟩ [("script", u)]) ∧ ∀ base : Heap, (K w.params).In base → base.Ns mainGlobals mg → FnOk l.prog w (K w.params) mg base CX0 12 fa fd ["script"] (spLaw (K w.params))) :
    PySem.W.WalkO q loose XP YP l.row.toRowW d [] (fun f vs => PySem.call f vs) :=
  L2.walk_of (n := 63) (k := 12) (x := "script") (CX := fun _ => CX0) (sp := fun w => spLaw (K w.params)) hn (by decide) hdf ⟨rfl, by decide, by decide⟩ hY F (fun _ _ a ns hl _ hS => ⟨a, ns, rfl, hS, hl, fun _ => rfl⟩) fun _ _ _ _ _ z => z
end My
open PySem PySem.W PyProof.Rows
set_option maxRecDepth 100000 in
set_option maxHeartbeats 0 in
theorem PySem.Challenge.cw_carrykeys_k53_script_texts_refused_holds : PySem.Challenge.rw_carrykeys_k53_script_texts_refused.Holds := by
  w_on; o_law; k_head; (case hw => w_witness2)
  k_fill
  refine My.walk (l := PySem.Challenge.rw_carrykeys_k53_script_texts_refused) rfl rfl (fun w h Y => PySem.W.kIn_of Y) ?F
  case F =>
    intro w mg fa h KX G hmg
    refine' My.fin (My.Txt.mk (My.classAt KX G ?h1 ?h2 ?h3 ?h4 ?h5 ?h6 ?h7)
      (My.noAttr ?h8)
      (My.noAttr ?h9)
      (My.classAt KX G ?h10 ?h11 ?h12 ?h13 ?h14 ?h15 ?h16)
      (My.noAttr ?h17)
      (My.noAttr ?h18)
      (My.noAttr ?h19)
      (My.baseAt KX G ?h20 ?h21 ?h22 ?h23 ?h24)
      (My.errAt KX G ?h25 ?h26 ?h27 ?h28 ?h29 ?h30 ?h31 ?h32 ?h33 ?h34 (My.noC ?h35 My.no0))
      (My.errAt KX G ?h36 ?h37 ?h38 ?h39 ?h40 ?h41 ?h42 ?h43 ?h44 ?h45 (My.noC ?h46 My.no0))
      (My.errAt KX G ?h47 ?h48 ?h49 ?h50 ?h51 ?h52 ?h53 ?h54 ?h55 ?h56 (My.noC ?h57 My.no0))
      (My.errAt KX G ?h58 ?h59 ?h60 ?h61 ?h62 ?h63 ?h64 ?h65 ?h66 ?h67 My.no0)
      ?h68
      (PySem.W.mg_of KX G ?h69)
      (PySem.W.mg_of KX G ?h70)
      (PySem.W.mg_of KX G ?h71)
      (PySem.W.mg_of KX G ?h72)
      (PySem.W.mg_of KX G ?h73)
      (PySem.W.mg_of KX G ?h74)
      (PySem.W.mg_of KX G ?h75)
      (PySem.W.mg_of KX G ?h76)
      (PySem.W.mg_of KX G ?h77)
      (PySem.W.mg_of KX G ?h78)
      (PySem.W.mg_of KX G ?h79)
      (PySem.W.mg_of KX G ?h80)
      (PySem.W.mg_of KX G ?h81)
      (PySem.W.mg_of KX G ?h82)
      ?h83
      ?h84
      ?h85
      ?h86
      ?h87
      ?h88
      ?h89
      ?h90
      ?h91
      ?h92
      ?h93
      ?h94
      ?h95
      ?h96
      ?h97
      ?h98
      ?h99
      ?h100
      ?h101
      ?h102
      ?h103
      ?h104
      ?h105
      ?h106
      ?h107
      ?h108
      ?h109
      ?h110
      ?h111
      ?h112
      ?h113
      ?h114
      ?h115
      ?h116
      ?h117
      ?h118
      ?h119
      ?h120
      (L2.ExcC.mk ?h121 ?h122 ?h123 ?h124 ?h125 ?h126 ?h127 ?h128)
      (L2.ExcC.mk ?h129 ?h130 ?h131 ?h132 ?h133 ?h134 ?h135 ?h136)
      ?h137
      ?h138
      ?h139
      ?h140
      (My.IsC.mk ?h141 ?h142 ?h143 ?h144 ?h145 (My.noTy_mk ?h146 ?h147 ?h148 ?h149 ?h150 ?h151))
      (My.IsC.mk ?h152 ?h153 ?h154 ?h155 ?h156 (My.noTy_mk ?h157 ?h158 ?h159 ?h160 ?h161 ?h162))
      (PySem.W.mg_of KX G ?h163)
      (My.tupAt ?h164 (by decide) ?h165)
      (PySem.W.mg_of KX G ?h166)
      (My.tupAt ?h167 (by decide) ?h168)
      (My.methAt (fun _ _ _ _ _ _ us hl => match us, hl with | [_, _], _ => rfl) ?h169 ?h170 ?h171 ?h172 ?h173)
      (My.methAt (fun _ _ _ _ _ _ us hl => match us, hl with | [_, _], _ => rfl) ?h174 ?h175 ?h176 ?h177 ?h178)
      (My.methAt (fun _ _ _ _ _ _ us hl => match us, hl with | [_, _], _ => rfl) ?h179 ?h180 ?h181 ?h182 ?h183)
      (My.methAt (fun _ _ _ _ _ _ us hl => match us, hl with | [_, _], _ => rfl) ?h184 ?h185 ?h186 ?h187 ?h188)
      (My.defAt KX G (fun _ _ _ _ _ _ us hl => match us, hl with | [_, _], _ => rfl) ?h189 ?h190 ?h191 ?h192)
      (My.defAt KX G (fun _ _ _ _ _ _ us hl => match us, hl with | [_], _ => rfl) ?h193 ?h194 ?h195 ?h196)
      (My.defAt KX G (fun _ _ _ _ _ _ us hl => match us, hl with | [_, _], _ => rfl) ?h197 ?h198 ?h199 ?h200)
      (My.defAt KX G (fun _ _ _ _ _ _ us hl => match us, hl with | [_, _], _ => rfl) ?h201 ?h202 ?h203 ?h204)
      (My.defAt KX G (fun _ _ _ _ _ _ us hl => match us, hl with | [_], _ => rfl) ?h205 ?h206 ?h207 ?h208)
      (My.defAt KX G (fun _ _ _ _ _ _ us hl => match us, hl with | [_, _], _ => rfl) ?h209 ?h210 ?h211 ?h212)
      (My.defAt KX G (fun _ _ _ _ _ _ us hl => match us, hl with | [_, _], _ => rfl) ?h213 ?h214 ?h215 ?h216)
      (My.defAt KX G (fun _ _ _ _ _ _ us hl => match us, hl with | [_], _ => rfl) ?h217 ?h218 ?h219 ?h220)
      (My.defAt KX G (fun _ _ _ _ _ _ us hl => match us, hl with | [_], _ => rfl) ?h221 ?h222 ?h223 ?h224)
      (My.defAt KX G (fun _ _ _ _ _ _ us hl => match us, hl with | [_], _ => rfl) ?h225 ?h226 ?h227 ?h228)
      (My.defAt KX G (fun _ _ _ _ _ _ us hl => match us, hl with | [_], _ => rfl) ?h229 ?h230 ?h231 ?h232)
      (My.defAt KX G (fun _ _ _ _ _ _ us hl => match us, hl with | [_], _ => rfl) ?h233 ?h234 ?h235 ?h236)
      (My.defAt KX G (fun _ _ _ _ _ _ us hl => match us, hl with | [_], _ => rfl) ?h237 ?h238 ?h239 ?h240)
      (My.defAt KX G (fun _ _ _ _ _ _ us hl => match us, hl with | [_], _ => rfl) ?h241 ?h242 ?h243 ?h244)
      (My.defAt KX G (fun _ _ _ _ _ _ us hl => match us, hl with | [_], _ => rfl) ?h245 ?h246 ?h247 ?h248)
      (My.methAt (fun _ _ _ _ _ _ us hl => match us, hl with | [_, _], _ => rfl) ?h249 ?h250 ?h251 ?h252 ?h253)
      (My.methAt (fun _ _ _ _ _ _ us hl => match us, hl with | [_], _ => rfl) ?h254 ?h255 ?h256 ?h257 ?h258)
      (My.methAt (fun _ _ _ _ _ _ us hl => match us, hl with | [_], _ => rfl) ?h259 ?h260 ?h261 ?h262 ?h263)
      (My.defN KX G (fun _ _ _ _ _ _ us hl => match us, hl with | [_, _], _ => rfl) ?h264 ?h265 ?h266 ?h267)
      (My.defN KX G (fun _ _ _ _ _ _ us hl => match us, hl with | [_, _], _ => rfl) ?h268 ?h269 ?h270 ?h271)
      (My.defAt KX G (fun _ _ _ _ _ _ us hl => match us, hl with | [_, _], _ => rfl) ?h272 ?h273 ?h274 ?h275)
      (My.methDAt (its := [.bool true]) (fun _ _ _ _ _ _ _ us its h1 h2 => match us, its, h1, h2 with | [_, _, _, _], [_], _, _ => ⟨_, rfl, rfl⟩) (fun _ _ _ _ _ _ _ us its h1 h2 => match us, its, h1, h2 with | [_, _, _], [_], _, _ => ⟨_, rfl, rfl⟩) (by simp) (by decide) ?h276 ?h277 ?h278 ?h279 ?h280 ?h281 ?h282 (.cons rfl .nil))
      (My.propAt (fun _ _ _ _ _ _ us hl => match us, hl with | [_], _ => rfl) ?h283 ?h284 ?h285 ?h286 ?h287 ?h288 ?h289)
      (My.methAt (fun _ _ _ _ _ _ us hl => match us, hl with | [_], _ => rfl) ?h290 ?h291 ?h292 ?h293 ?h294)
      (My.defAt KX G (fun _ _ _ _ _ _ us hl => match us, hl with | [_, _], _ => rfl) ?h295 ?h296 ?h297 ?h298)
      (My.defN KX G (fun _ _ _ _ _ _ us hl => match us, hl with | [_], _ => rfl) ?h299 ?h300 ?h301 ?h302)
      (My.defN KX G (fun _ _ _ _ _ _ us hl => match us, hl with | [_], _ => rfl) ?h303 ?h304 ?h305 ?h306)
      (My.defAt KX G (fun _ _ _ _ _ _ us hl => match us, hl with | [_], _ => rfl) ?h307 ?h308 ?h309 ?h310)
      (My.defAt KX G (fun _ _ _ _ _ _ us hl => match us, hl with | [_, _], _ => rfl) ?h311 ?h312 ?h313 ?h314)
      (My.defAt KX G (fun _ _ _ _ _ _ us hl => match us, hl with | [_, _], _ => rfl) ?h315 ?h316 ?h317 ?h318)
      (My.defAt KX G (fun _ _ _ _ _ _ us hl => match us, hl with | [_], _ => rfl) ?h319 ?h320 ?h321 ?h322)
      (My.defAt KX G (fun _ _ _ _ _ _ us hl => match us, hl with | [_], _ => rfl) ?h323 ?h324 ?h325 ?h326)
      (My.defAt KX G (fun _ _ _ _ _ _ us hl => match us, hl with | [_], _ => rfl) ?h327 ?h328 ?h329 ?h330)
      (My.defAt KX G (fun _ _ _ _ _ _ us hl => match us, hl with | [_, _], _ => rfl) ?h331 ?h332 ?h333 ?h334)
      (My.defAt KX G (fun _ _ _ _ _ _ us hl => match us, hl with | [_, _], _ => rfl) ?h335 ?h336 ?h337 ?h338)
      (My.defAt KX G (fun _ _ _ _ _ _ us hl => match us, hl with | [_, _, _], _ => rfl) ?h339 ?h340 ?h341 ?h342)
      (My.defAt KX G (fun _ _ _ _ _ _ us hl => match us, hl with | [_, _, _], _ => rfl) ?h343 ?h344 ?h345 ?h346)
      (My.defAt KX G (fun _ _ _ _ _ _ us hl => match us, hl with | [_, _], _ => rfl) ?h347 ?h348 ?h349 ?h350)
      (My.defAt KX G (fun _ _ _ _ _ _ us hl => match us, hl with | [_], _ => rfl) ?h351 ?h352 ?h353 ?h354)
      (My.constAt KX G ?h355 ?rLETTERS)
      (My.constAt KX G ?h356 ?rLONGEST_NAME)
      (My.constAt KX G ?h357 ?rMOST_TABLES)
      (My.constAt KX G ?h358 ?rMOST_REFERENCES)
      (My.constAt KX G ?h359 ?rMOST_STEPS)
      (PySem.W.mg_none_of KX G ?h360)
      (PySem.W.mg_none_of KX G ?h361)
      (PySem.W.mg_none_of KX G ?h362)
      (PySem.W.mg_none_of KX G ?h363)
      (PySem.W.mg_none_of KX G ?h364)
      (PySem.W.mg_none_of KX G ?h365)
      (PySem.W.mg_none_of KX G ?h366)
      (PySem.W.mg_none_of KX G ?h367)
      (PySem.W.mg_none_of KX G ?h368)
      (PySem.W.mg_none_of KX G ?h369)
      (PySem.W.mg_none_of KX G ?h370)
      (PySem.W.mg_none_of KX G ?h371)
      (PySem.W.mg_none_of KX G ?h372)) hmg
    (case h1 => k_is)
    (case h2 => k_is)
    (case h3 => k_is)
    (case h4 => k_is)
    (case h5 => k_is)
    (case h6 => k_is)
    (case h7 => k_is)
    (case h8 => k_is)
    (case h9 => k_is)
    (case h10 => k_is)
    (case h11 => k_is)
    (case h12 => k_is)
    (case h13 => k_is)
    (case h14 => k_is)
    (case h15 => k_is)
    (case h16 => k_is)
    (case h17 => k_is)
    (case h18 => k_is)
    (case h19 => k_is)
    (case h20 => k_is)
    (case h21 => k_is)
    (case h22 => k_is)
    (case h23 => k_is)
    (case h24 => k_is)
    (case h25 => k_is)
    (case h26 => k_is)
    (case h27 => decide +kernel)
    (case h28 => k_is)
    (case h29 => k_is)
    (case h30 => k_is)
    (case h31 => k_is)
    (case h32 => k_is)
    (case h33 => k_is)
    (case h34 => k_is)
    (case h35 => k_is)
    (case h36 => k_is)
    (case h37 => k_is)
    (case h38 => decide +kernel)
    (case h39 => k_is)
    (case h40 => k_is)
    (case h41 => k_is)
    (case h42 => k_is)
    (case h43 => k_is)
    (case h44 => k_is)
    (case h45 => k_is)
    (case h46 => k_is)
    (case h47 => k_is)
    (case h48 => k_is)
    (case h49 => decide +kernel)
    (case h50 => k_is)
    (case h51 => k_is)
    (case h52 => k_is)
    (case h53 => k_is)
    (case h54 => k_is)
    (case h55 => k_is)
    (case h56 => k_is)
    (case h57 => k_is)
    (case h58 => k_is)
    (case h59 => k_is)
    (case h60 => decide +kernel)
    (case h61 => k_is)
    (case h62 => k_is)
    (case h63 => k_is)
    (case h64 => k_is)
    (case h65 => k_is)
    (case h66 => k_is)
    (case h67 => k_is)
    (case h68 => first | rfl | decide +kernel | k_is)
    (case h69 => k_is)
    (case h70 => k_is)
    (case h71 => k_is)
    (case h72 => k_is)
    (case h73 => k_is)
    (case h74 => k_is)
    (case h75 => k_is)
    (case h76 => k_is)
    (case h77 => k_is)
    (case h78 => k_is)
    (case h79 => k_is)
    (case h80 => k_is)
    (case h81 => k_is)
    (case h82 => k_is)
    (case h83 => first | rfl | k_is | decide +kernel)
    (case h84 => first | rfl | k_is | decide +kernel)
    (case h85 => first | rfl | k_is | decide +kernel)
    (case h86 => first | rfl | k_is | decide +kernel)
    (case h87 => first | rfl | k_is | decide +kernel)
    (case h88 => first | rfl | k_is | decide +kernel)
    (case h89 => first | rfl | k_is | decide +kernel)
    (case h90 => first | rfl | k_is | decide +kernel)
    (case h91 => first | rfl | k_is | decide +kernel)
    (case h92 => first | rfl | k_is | decide +kernel)
    (case h93 => first | rfl | k_is | decide +kernel)
    (case h94 => first | rfl | k_is | decide +kernel)
    (case h95 => first | rfl | k_is | decide +kernel)
    (case h96 => first | rfl | k_is | decide +kernel)
    (case h97 => first | rfl | k_is | decide +kernel)
    (case h98 => first | rfl | k_is | decide +kernel)
    (case h99 => first | rfl | k_is | decide +kernel)
    (case h100 => first | rfl | k_is | decide +kernel)
    (case h101 => first | rfl | k_is | decide +kernel)
    (case h102 => first | rfl | k_is | decide +kernel)
    (case h103 => first | rfl | k_is | decide +kernel)
    (case h104 => first | rfl | k_is | decide +kernel)
    (case h105 => first | rfl | k_is | decide +kernel)
    (case h106 => first | rfl | k_is | decide +kernel)
    (case h107 => first | rfl | k_is | decide +kernel)
    (case h108 => first | rfl | k_is | decide +kernel)
    (case h109 => first | rfl | k_is | decide +kernel)
    (case h110 => first | rfl | k_is | decide +kernel)
    (case h111 => first | rfl | k_is | decide +kernel)
    (case h112 => first | rfl | k_is | decide +kernel)
    (case h113 => first | rfl | k_is | decide +kernel)
    (case h114 => first | rfl | k_is | decide +kernel)
    (case h115 => first | rfl | k_is | decide +kernel)
    (case h116 => first | rfl | k_is | decide +kernel)
    (case h117 => first | rfl | k_is | decide +kernel)
    (case h118 => first | rfl | k_is | decide +kernel)
    (case h119 => first | rfl | k_is | decide +kernel)
    (case h120 => first | rfl | k_is | decide +kernel)
    (case h121 => k_is)
    (case h122 => k_is)
    (case h123 => k_is)
    (case h124 => k_is)
    (case h125 => k_is)
    (case h126 => k_is)
    (case h127 => k_is)
    (case h128 => k_is)
    (case h129 => k_is)
    (case h130 => k_is)
    (case h131 => k_is)
    (case h132 => k_is)
    (case h133 => k_is)
    (case h134 => k_is)
    (case h135 => k_is)
    (case h136 => k_is)
    (case h137 => first | rfl | k_is)
    (case h138 => first | rfl | k_is)
    (case h139 => first | rfl | k_is)
    (case h140 => k_is)
    (case h141 => k_is)
    (case h142 => k_is)
    (case h143 => k_is)
    (case h144 => k_is)
    (case h145 => k_is)
    (case h146 => k_is)
    (case h147 => k_is)
    (case h148 => k_is)
    (case h149 => k_is)
    (case h150 => k_is)
    (case h151 => k_is)
    (case h152 => k_is)
    (case h153 => k_is)
    (case h154 => k_is)
    (case h155 => k_is)
    (case h156 => k_is)
    (case h157 => k_is)
    (case h158 => k_is)
    (case h159 => k_is)
    (case h160 => k_is)
    (case h161 => k_is)
    (case h162 => k_is)
    (case h163 => k_is)
    (case h164 => k_is)
    (case h165 => exact (.cons ⟨_, rfl⟩ (.cons ⟨_, rfl⟩ (.cons ⟨_, rfl⟩ .nil))))
    (case h166 => k_is)
    (case h167 => k_is)
    (case h168 => exact (.cons ⟨_, rfl⟩ (.cons ⟨_, rfl⟩ (.cons ⟨_, rfl⟩ .nil))))
    (case h169 => k_is)
    (case h170 => k_is)
    (case h171 => k_is)
    (case h172 => k_is)
    (case h173 => k_is)
    (case h174 => k_is)
    (case h175 => k_is)
    (case h176 => k_is)
    (case h177 => k_is)
    (case h178 => k_is)
    (case h179 => k_is)
    (case h180 => k_is)
    (case h181 => k_is)
    (case h182 => k_is)
    (case h183 => k_is)
    (case h184 => k_is)
    (case h185 => k_is)
    (case h186 => k_is)
    (case h187 => k_is)
    (case h188 => k_is)
    (case h189 => k_is)
    (case h190 => k_is)
    (case h191 => k_is)
    (case h192 => k_is)
    (case h193 => k_is)
    (case h194 => k_is)
    (case h195 => k_is)
    (case h196 => k_is)
    (case h197 => k_is)
    (case h198 => k_is)
    (case h199 => k_is)
    (case h200 => k_is)
    (case h201 => k_is)
    (case h202 => k_is)
    (case h203 => k_is)
    (case h204 => k_is)
    (case h205 => k_is)
    (case h206 => k_is)
    (case h207 => k_is)
    (case h208 => k_is)
    (case h209 => k_is)
    (case h210 => k_is)
    (case h211 => k_is)
    (case h212 => k_is)
    (case h213 => k_is)
    (case h214 => k_is)
    (case h215 => k_is)
    (case h216 => k_is)
    (case h217 => k_is)
    (case h218 => k_is)
    (case h219 => k_is)
    (case h220 => k_is)
    (case h221 => k_is)
    (case h222 => k_is)
    (case h223 => k_is)
    (case h224 => k_is)
    (case h225 => k_is)
    (case h226 => k_is)
    (case h227 => k_is)
    (case h228 => k_is)
    (case h229 => k_is)
    (case h230 => k_is)
    (case h231 => k_is)
    (case h232 => k_is)
    (case h233 => k_is)
    (case h234 => k_is)
    (case h235 => k_is)
    (case h236 => k_is)
    (case h237 => k_is)
    (case h238 => k_is)
    (case h239 => k_is)
    (case h240 => k_is)
    (case h241 => k_is)
    (case h242 => k_is)
    (case h243 => k_is)
    (case h244 => k_is)
    (case h245 => k_is)
    (case h246 => k_is)
    (case h247 => k_is)
    (case h248 => k_is)
    (case h249 => k_is)
    (case h250 => k_is)
    (case h251 => k_is)
    (case h252 => k_is)
    (case h253 => k_is)
    (case h254 => k_is)
    (case h255 => k_is)
    (case h256 => k_is)
    (case h257 => k_is)
    (case h258 => k_is)
    (case h259 => k_is)
    (case h260 => k_is)
    (case h261 => k_is)
    (case h262 => k_is)
    (case h263 => k_is)
    (case h264 => k_is)
    (case h265 => k_is)
    (case h266 => k_is)
    (case h267 => k_is)
    (case h268 => k_is)
    (case h269 => k_is)
    (case h270 => k_is)
    (case h271 => k_is)
    (case h272 => k_is)
    (case h273 => k_is)
    (case h274 => k_is)
    (case h275 => k_is)
    (case h276 => k_is)
    (case h277 => k_is)
    (case h278 => k_is)
    (case h279 => k_is)
    (case h280 => k_is)
    (case h281 => k_is)
    (case h282 => exact rfl)
    (case h283 => k_is)
    (case h284 => k_is)
    (case h285 => k_is)
    (case h286 => k_is)
    (case h287 => k_is)
    (case h288 => k_is)
    (case h289 => k_is)
    (case h290 => k_is)
    (case h291 => k_is)
    (case h292 => k_is)
    (case h293 => k_is)
    (case h294 => k_is)
    (case h295 => k_is)
    (case h296 => k_is)
    (case h297 => k_is)
    (case h298 => k_is)
    (case h299 => k_is)
    (case h300 => k_is)
    (case h301 => k_is)
    (case h302 => k_is)
    (case h303 => k_is)
    (case h304 => k_is)
    (case h305 => k_is)
    (case h306 => k_is)
    (case h307 => k_is)
    (case h308 => k_is)
    (case h309 => k_is)
    (case h310 => k_is)
    (case h311 => k_is)
    (case h312 => k_is)
    (case h313 => k_is)
    (case h314 => k_is)
    (case h315 => k_is)
    (case h316 => k_is)
    (case h317 => k_is)
    (case h318 => k_is)
    (case h319 => k_is)
    (case h320 => k_is)
    (case h321 => k_is)
    (case h322 => k_is)
    (case h323 => k_is)
    (case h324 => k_is)
    (case h325 => k_is)
    (case h326 => k_is)
    (case h327 => k_is)
    (case h328 => k_is)
    (case h329 => k_is)
    (case h330 => k_is)
    (case h331 => k_is)
    (case h332 => k_is)
    (case h333 => k_is)
    (case h334 => k_is)
    (case h335 => k_is)
    (case h336 => k_is)
    (case h337 => k_is)
    (case h338 => k_is)
    (case h339 => k_is)
    (case h340 => k_is)
    (case h341 => k_is)
    (case h342 => k_is)
    (case h343 => k_is)
    (case h344 => k_is)
    (case h345 => k_is)
    (case h346 => k_is)
    (case h347 => k_is)
    (case h348 => k_is)
    (case h349 => k_is)
    (case h350 => k_is)
    (case h351 => k_is)
    (case h352 => k_is)
    (case h353 => k_is)
    (case h354 => k_is)
    (case h355 => k_is)
    (case rLETTERS => exact ⟨_, rfl⟩)
    (case h356 => k_is)
    (case rLONGEST_NAME => exact ⟨_, rfl⟩)
    (case h357 => k_is)
    (case rMOST_TABLES => exact ⟨_, rfl⟩)
    (case h358 => k_is)
    (case rMOST_REFERENCES => exact ⟨_, rfl⟩)
    (case h359 => k_is)
    (case rMOST_STEPS => exact ⟨_, rfl⟩)
    (case h360 => k_is)
    (case h361 => k_is)
    (case h362 => k_is)
    (case h363 => k_is)
    (case h364 => k_is)
    (case h365 => k_is)
    (case h366 => k_is)
    (case h367 => k_is)
    (case h368 => k_is)
    (case h369 => k_is)
    (case h370 => k_is)
    (case h371 => k_is)
    (case h372 => k_is)
