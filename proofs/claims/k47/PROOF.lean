import PyProof.Rows.All
import Wide.All
import OpenK.AllK
import Wide.FinOn
import HandS.ForMost
import HandS.Codes
import PySem.Challenge.RW_mapwebs_k47_whole_nearest
import HandS.IsInst
import HandS.OwnEq
import HandS.ForExc
import HandS.ExcInit
import HandS.ExcField
import HandS.ExcValue
import KE.KExcIs
import HandS.TupAny
import HandS.Zip
import HandS.Style
import HandS.TryMany
import PyProof.P3In
import HandS.Deep
import HandS.Lambda
import PyProof.ReprRoads
import PyProof.FitsInt
import HandS.Walk
import HandS.DictComp
import KE.GoesMore
import HandS.Iter
import HandS.NoneIn
import HandS.DictTup
import HandS.WordsDict
import HandS.SortInts
import HandS.More
set_option Elab.async false
set_option linter.all false
set_option maxRecDepth 100000
set_option maxHeartbeats 4000000
set_option pp.maxSteps 60
namespace E47
open PySem L2
def top (i : Nat) : Stmt := PySem.Challenge.pw_mapwebs_k47_whole_nearest.main.body.getD i (.Pass ⟨0, 0, 0, 0⟩)
abbrev sBag : Stmt := top 27
abbrev sPick : Stmt := top 28
abbrev sSome : Stmt := top 29
theorem upd_upd {H : Hp} {a : Addr} {o u : HO} : upd (upd H a o) a u = upd H a u := by
  funext b
  by_cases h : b = a
  · rw [h, upd_same, upd_same]
  · rw [upd_ne h, upd_ne h, upd_ne h]
/-- the bag stands at a, its great numbers at c -/
def BagAt (H : Hp) (a c : Addr) : Prop := ∃ (ns : List Int) (z m n : Int), H a = some (.lst [.ref c, .int z, .int m, .int n]) ∧ H c = some (.lst (ns.map V.int))
theorem BagAt.neq {H : Hp} {a c : Addr} (x : BagAt H a c) : c ≠ a := by
  obtain ⟨ns, z, m, n, h1, h2⟩ := x
  exact ne_of h2 h1 (by intro q; cases ns <;> cases q)
/-- a step that changes nothing but the bag, and makes new things -/
structure Go (a c : Addr) (H H' : Hp) : Prop where
  bag : BagAt H' a c
  keep : ∀ b o, b ≠ a → b ≠ c → H b = some o → H' b = some o
theorem Go.trans {a c : Addr} {H H1 H2 : Hp} (x : Go a c H H1) (y : Go a c H1 H2) : Go a c H H2 := ⟨y.1, fun b o n m e => y.2 b o n m (x.2 b o n m e)⟩
theorem Go.refl {a c : Addr} {H : Hp} (x : BagAt H a c) : Go a c H H := ⟨x, fun _ _ _ _ e => e⟩
theorem BagAt.ne {H : Hp} {a c : Addr} (x : BagAt H a c) {b : Addr} (h : H b = none) : b ≠ a ∧ b ≠ c := by
  obtain ⟨ns, z, m, n, h1, h2⟩ := x
  exact ⟨(ne_of_none h1 h).symm, (ne_of_none h2 h).symm⟩
theorem Go.of_ext {a c : Addr} {H H' : Hp} (x : BagAt H a c) (e : ∀ b o, H b = some o → H' b = some o) : Go a c H H' := by
  obtain ⟨ns, z, m, n, h1, h2⟩ := x
  exact ⟨⟨ns, z, m, n, e _ _ h1, e _ _ h2⟩, fun b o _ _ h => e b o h⟩
theorem Go.new {a c : Addr} {H : Hp} (x : BagAt H a c) {b : Addr} {o : HO} (h : H b = none) : Go a c H (upd H b o) := Go.of_ext x fun d u e => by rw [upd_ne (ne_of_none e h)]; exact e
/-- a store at a thing that is new since -/
theorem Go.put {a c d : Addr} {H H' : Hp} {o : HO} (p : BagAt H a c) (g : Go a c H H') (nd : H d = none) : Go a c H (upd H' d o) := by
  obtain ⟨h1, h2⟩ := p.ne nd
  obtain ⟨ns, z, m, n, h3, h4⟩ := g.1
  exact ⟨⟨ns, z, m, n, by rw [upd_ne h1.symm]; exact h3, by rw [upd_ne h2.symm]; exact h4⟩, fun b o' nb nc hb => by rw [upd_ne (ne_of_none hb nd)]; exact g.2 b o' nb nc hb⟩
theorem bag_no {H : Hp} {a c b : Addr} {o : HO} (p : BagAt H a c) (h : H b = some o) (no : ∀ xs, o ≠ .lst xs) : b ≠ a ∧ b ≠ c := by
  obtain ⟨ns, z, m, n, h1, h2⟩ := p
  refine ⟨fun e => ?_, fun e => ?_⟩
  · rw [e, h1] at h
    cases h
    exact no _ rfl
  · rw [e, h2] at h
    cases h
    exact no _ rfl
theorem Go.tup {a c b : Addr} {H H' : Hp} {xs : List V} (p : BagAt H a c) (g : Go a c H H') (h : H b = some (.tup xs)) : H' b = some (.tup xs) := g.2 _ _ (bag_no p h fun _ z => nomatch z).1 (bag_no p h fun _ z => nomatch z).2 h
def spBag (K : PySem.W.Frag) : Sp := fun vs H Q _ => ∃ (s : Addr) (ns : List Int), vs = [.ref s] ∧ SqL K H s (ns.map V.int) ∧ ns.length ≤ 63 ∧ ∀ (r c : Addr) (H' : Hp), (∀ b o, H b = some o → H' b = some o) → BagAt H' r c → Q (.ref r) H'
def spPick : Sp := fun vs H Q _ => ∃ (a c : Addr) (m : Int), vs = [.ref a, .int m] ∧ BagAt H a c ∧ 0 < m ∧ m < 1000000 ∧ ∀ (r : Int) (H' : Hp), 0 ≤ r → r < m → Go a c H H' → Q (.int r) H'
def spSome : Sp := fun vs H Q _ => ∃ (a c l : Addr) (xs : List V), vs = [.ref a, .ref l] ∧ BagAt H a c ∧ l ≠ a ∧ l ≠ c ∧ H l = some (.lst xs) ∧ xs ≠ [] ∧ xs.length ≤ 1000 ∧ ∀ (x : V) (H' : Hp), x ∈ xs → Go a c H H' → Q x H'
structure Bl (mg : Str → Option Value) : Prop where
  len : mg "len" = none
  int : mg "int" = none
theorem tyes_in {σ : L2.St} {H : Hp} {te : TE} {R : V → Hp → Prop} {N : Hp → Prop} (h : te σ H R) : tYes σ H (fun b H3 => if b = true then te σ H3 R else N H3) := by
  show (if true = true then te σ H R else N H)
  rw [if_pos rfl]
  exact h
section
variable {P : Program} {w : World} {K : PySem.W.Frag} {mg : Str → Option Value} {base : Heap}
theorem scPick : FnScope ["_law_bag_here", "_law_many", "_law_number"] ["_law_bag_here", "_law_many"] (defScope sPick) := ⟨rfl, rfl, rfl, by decide +kernel, rfl, by decide +kernel, by decide +kernel⟩
theorem seq0 {n : Nat} (h : 0 < n) : seqIndex? 0 n = some 0 := by
  unfold seqIndex?
  simp only [show ¬ ((0 : Int) < 0) by decide, if_false]
  rw [if_pos (by simp; omega)]
  rfl
theorem ix0 {n : Nat} (h : 0 < n) : ixN n 0 = some 0 := by
  unfold ixN
  rw [if_pos (by decide), if_pos (by omega)]
  rfl
theorem ok_pick {f : Addr} {fd : FuncData} (F : Fun K "_law_pick" "_law_pick" sPick f fd) (T : Bl mg) : FnOk P w K mg base CX0 1 f fd ["_law_bag_here", "_law_many"] spPick := by
  refine F.ok scPick (fun vs H Q E h => ?_) (fun cdv A outer s H vs Q E hr h => ?_)
  · obtain ⟨a, c, m, rfl, _⟩ := h
    rfl
  · obtain ⟨a, c, m, rfl, bag, hm, hm2, k⟩ := h
    obtain ⟨ns, z, ln, n, h1, h2⟩ := id bag
    have hca := bag.neq
    refine ⟨_, pss_cons (ps_if (pt_cmpR op_eq (pe_ix ix_list (pv 0) pe_int (fun _ _ => rfl)) pe_int (nomark _)) (pss_one (ps_ret pe_int)) pss_nil)
      (pss_cons (ps_if (pt_cmpR op_gt (pe_callB call_len_seq (by rfl) T.len PySem.boot_len (pa_cons (pe_ix ix_list (pv 0) pe_int (fun _ _ => rfl)) pa_nil)) pe_int (nomark _))
        (pss_cons (ps_set (i := 2) scPick.nd rfl (Or.inl rfl) (pe_ix ix_list (pe_ix ix_list (pv 0) pe_int (fun _ _ => rfl)) pe_int (fun _ _ => rfl)))
        (pss_cons (ps_asg (pe_op op_fdiv (pv 2) (pv 1)) (pg_sub (pe_ix ix_list (pv 0) pe_int (fun _ _ => rfl)) pe_int set_list))
        (pss_cons (ps_if (pt_cmpR op_lt (pv 2) (pv 1) (nomark _)) (pss_one (ps_expr (pe_bm PySem.F.plainAttrs_list PySem.F.slot_list_pop PySem.F.type_list_pop mt_popAt (pe_ix ix_list (pv 0) pe_int (fun _ _ => rfl)) (pa_cons pe_int pa_nil)))) pss_nil)
        (pss_one (ps_ret (pe_op op_mod (pe_callTy call_int1 (by rfl) T.int (by decide +kernel) (pa_cons (pv 2) pa_nil)) (pv 1))))))) pss_nil)
      (pss_cons (ps_asg (pe_op op_add (pe_ix ix_list (pv 0) pe_int (fun _ _ => rfl)) pe_int) (pg_sub (pv 0) pe_int set_list))
      (pss_cons (ps_set (i := 2) scPick.nd rfl (Or.inl rfl) (pe_op op_mod (pe_callTy call_int1 (by rfl) T.int (by decide +kernel) (pa_cons (pe_op op_add (pe_op op_mul (pe_op op_add (pe_ix ix_list (pv 0) pe_int (fun _ _ => rfl)) (pe_op op_mul pe_int (pe_ix ix_list (pv 0) pe_int (fun _ _ => rfl)))) pe_int) pe_int) pa_nil)) pe_int))
      (pss_cons (ps_set (i := 2) scPick.nd rfl (Or.inl rfl) (pe_op op_mod (pe_callTy call_int1 (by rfl) T.int (by decide +kernel) (pa_cons (pe_op op_add (pe_op op_mul (pv 2) (pe_op op_add (pe_op op_fdiv (pv 2) pe_int) pe_int)) (pe_ix ix_list (pv 0) pe_int (fun _ _ => rfl))) pa_nil)) pe_int))
      (pss_cons (ps_asg (pe_op op_mod (pe_callTy call_int1 (by rfl) T.int (by decide +kernel) (pa_cons (pe_op op_add (pe_ix ix_list (pv 0) pe_int (fun _ _ => rfl)) (pv 2)) pa_nil)) pe_int) (pg_sub (pv 0) pe_int set_list))
      (pss_one (ps_ret (pe_op op_mod (pe_callTy call_int1 (by rfl) T.int (by decide +kernel) (pa_cons (pe_op op_fdiv (pv 2) pe_int) pa_nil)) (pv 1))))))))), ?_⟩
    refine ⟨_, rfl, _, _, _, _, rfl, rfl, SqL.of h1, rfl, rfl, _, rfl, ?_⟩
    refine ite2 (fun _ => k 0 H (by decide) hm (Go.refl bag)) (fun _ => ?_)
    refine ⟨_, rfl, _, _, _, _, rfl, rfl, SqL.of h1, rfl, c, _, rfl, .inl (SqL.of h2), _, _, rfl, rfl, _, rfl, ?_⟩
    refine ite2 (fun e => ?_) (fun _ => ?_)
    · have pos : 0 < ns.length := by
        have e' := of_decide_eq_true e
        rw [List.length_map] at e'
        omega
      match ns, pos with
      | x :: ns, _ =>
        refine ⟨_, rfl, _, _, _, _, rfl, rfl, SqL.of h1, rfl, c, _, 0, .int x, rfl, rfl, SqL.of h2, at_of (j := 0) rfl rfl, ?_⟩
        refine ⟨_, rfl, _, rfl, _, _, rfl, rfl, ⟨hm, by omega⟩, _, rfl, _, _, _, _, rfl, rfl, SqL.of h1, rfl, c, _, 0, 0, rfl, rfl, h2, ix0 (Nat.succ_pos _), ?_⟩
        have e1 : (List.map V.int (x :: ns)).set 0 (V.int (x / m)) = (x / m :: ns).map V.int := rfl
        have ha1 : (upd H c (.lst ((x / m :: ns).map V.int))) a = some (.lst [.ref c, .int z, .int ln, .int n]) := by rw [upd_ne hca.symm]; exact h1
        refine ⟨_, rfl, _, rfl, _, _, rfl, rfl, _, rfl, ?_⟩
        have fin : ∀ ys : List Int, Go a c H (upd H c (.lst (ys.map V.int))) := fun ys => ⟨⟨ys, z, ln, n, by rw [upd_ne hca.symm]; exact h1, upd_same⟩, fun b o _ nc hb => by rw [upd_ne nc]; exact hb⟩
        refine ite2 (fun _ => ?_) (fun _ => ?_)
        · refine ⟨_, rfl, _, _, _, _, rfl, rfl, SqL.of ha1, rfl, .inl ⟨rfl, _, SqL.of upd_same⟩, c, _, 0, 0, .int (x / m), rfl, rfl, upd_same, by decide, by decide, seq0 (Nat.succ_pos _), rfl, ?_⟩
          refine ⟨_, rfl, .inl ⟨_, rfl, _, rfl, _, _, rfl, rfl, hm, ?_⟩⟩
          rw [upd_upd]
          exact k _ _ (Int.emod_nonneg _ (by omega)) (Int.emod_lt_of_pos _ hm) (fin ns)
        · refine ⟨_, rfl, .inl ⟨_, rfl, _, rfl, _, _, rfl, rfl, hm, ?_⟩⟩
          exact k _ _ (Int.emod_nonneg _ (by omega)) (Int.emod_lt_of_pos _ hm) (fin (x / m :: ns))
    · have fin : ∀ z' n' : Int, Go a c H (upd H a (.lst [.ref c, .int z', .int ln, .int n'])) := fun z' n' => ⟨⟨ns, z', ln, n', upd_same, by rw [upd_ne hca]; exact h2⟩, fun b o na _ hb => by rw [upd_ne na]; exact hb⟩
      refine ⟨_, rfl, _, _, _, _, rfl, rfl, SqL.of h1, rfl, _, _, rfl, rfl, _, rfl, _, _, _, _, rfl, rfl, h1, rfl, ?_⟩
      refine ⟨_, rfl, _, _, _, _, rfl, rfl, SqL.of upd_same, rfl, _, rfl, _, _, _, _, rfl, rfl, SqL.of upd_same, rfl, _, _, rfl, rfl, .inl (by decide), _, _, rfl, rfl, _, _, rfl, rfl, .inr (by decide), _, _, rfl, rfl, .inl ⟨_, rfl, _, _, rfl, rfl, (by show (0 : Int) < 2147483647; decide), ?_⟩⟩
      have b1 := Int.emod_nonneg ((z + 7919 * (n + 1)) * 48271 + 11) (show (2147483647 : Int) ≠ 0 by decide)
      have b2 := Int.emod_lt_of_pos ((z + 7919 * (n + 1)) * 48271 + 11) (show (0 : Int) < 2147483647 by decide)
      refine ⟨_, rfl, _, rfl, _, _, rfl, rfl, ⟨by decide, by decide⟩, _, _, rfl, rfl, _, _, rfl, rfl, .inl ⟨by omega, by omega⟩, _, rfl, _, _, _, _, rfl, rfl, SqL.of upd_same, rfl, _, _, rfl, rfl, .inl ⟨_, rfl, _, _, rfl, rfl, (by show (0 : Int) < 2147483399; decide), ?_⟩⟩
      generalize ((z + 7919 * (n + 1)) * 48271 + 11) % 2147483647 = y1 at *
      refine ⟨_, rfl, _, _, _, _, rfl, rfl, SqL.of upd_same, rfl, _, rfl, _, _, rfl, rfl, .inl ⟨_, rfl, _, _, rfl, rfl, (by show (0 : Int) < 2147483629; decide), _, rfl, _, _, _, _, rfl, rfl, upd_same, rfl, ?_⟩⟩
      refine ⟨_, rfl, _, _, rfl, rfl, ⟨by decide, by decide⟩, .inl ⟨_, rfl, _, rfl, _, _, rfl, rfl, hm, ?_⟩⟩
      rw [upd_upd]
      exact k _ _ (Int.emod_nonneg _ (by omega)) (Int.emod_lt_of_pos _ hm) (fin _ _)
theorem scSome : FnScope ["_law_bag_here", "_law_things"] ["_law_bag_here", "_law_things"] (defScope sSome) := ⟨rfl, rfl, rfl, by decide +kernel, rfl, by decide +kernel, by decide +kernel⟩
theorem ok_some {f : Addr} {fd : FuncData} (F : Fun K "_law_some" "_law_some" sSome f fd) (T : Bl mg) (cD : C8.Cal P w K mg base 1 "_law_pick" spPick []) : FnOk P w K mg base CX0 2 f fd ["_law_bag_here", "_law_things"] spSome := by
  refine F.ok scSome (fun vs H Q E h => ?_) (fun cdv A outer s H vs Q E hr h => ?_)
  · obtain ⟨a, c, l, xs, rfl, _⟩ := h
    rfl
  · obtain ⟨a, c, l, xs, rfl, bag, na, nc, hl, ne, len, k⟩ := h
    refine ⟨_, pss_one (ps_ret (pe_ix ix_list (pv 1) (C8.pe_c cD hr (by decide) (by rfl) (pa_cons (pv 0) (pa_cons (pe_callB call_len_seq (by rfl) T.len PySem.boot_len (pa_cons (pv 1) pa_nil)) pa_nil))) (fun _ _ => rfl))), ?_⟩
    have pos : 0 < xs.length := List.length_pos_iff.mpr ne
    refine ⟨_, rfl, _, rfl, _, rfl, l, xs, rfl, .inl (SqL.of hl), a, c, _, rfl, bag, by omega, by omega, fun r H' h0 hlt go => ?_⟩
    have lt : r.toNat < xs.length := by omega
    refine ⟨l, xs, r, xs[r.toNat], rfl, rfl, SqL.of (go.2 _ _ na nc hl), at_of (j := r.toNat) (by omega) (List.getElem?_eq_getElem lt), ?_⟩
    exact k _ _ (List.getElem_mem lt) go
end
end E47

set_option Elab.async false
set_option linter.all false
set_option maxRecDepth 100000
set_option maxHeartbeats 4000000
set_option pp.maxSteps 60
namespace E47
open PySem L2
abbrev sInteger : Stmt := top 1
abbrev sNumber : Stmt := top 2
/-- built-ins that the text leaves as they are -/
structure Gb (mg : Str → Option Value) : Prop where
  len : mg "len" = none
  int : mg "int" = none
  bool : mg "bool" = none
  isi : mg "isinstance" = none
  tup : mg "tuple" = none
  all : mg "all" = none
  enum : mg "enumerate" = none
  list : mg "list" = none
  rng : mg "range" = none
  min : mg "min" = none
  max : mg "max" = none
  sorted : mg "sorted" = none
  set : mg "set" = none
  str : mg "str" = none
  abs : mg "abs" = none
  ve : mg "ValueError" = none
/-- what is expected of a caller of a plain def -/
abbrev Cal := @C8.Cal
def isI : V → Bool | .int _ => true | _ => false
def isB : V → Bool | .bl _ => true | _ => false
/-- a thing, as isinstance sees it; of a tuple also its items, n deep -/
def Th (K : PySem.W.Frag) (H : Hp) : Nat → V → Prop
  | n, x => ∃ t, TyX K H x t ∧ PySem.W.kitOne K t (.type "int") = some (isI x || isB x) ∧ PySem.W.kitOne K t (.type "bool") = some (isB x) ∧
    ((PySem.W.kitOne K t (.type "tuple") = some false ∧ ∀ a, x = .ref a → ∃ o, H a = some o ∧ ∀ xs, o ≠ .tup xs) ∨ (PySem.W.kitOne K t (.type "tuple") = some true ∧ ∃ a xs, x = .ref a ∧ H a = some (.tup xs) ∧
      match n with | 0 => True | m + 1 => ∀ y ∈ xs, Th K H m y))
theorem Th.zero {K : PySem.W.Frag} {H : Hp} {n : Nat} {x : V} (h : Th K H n x) : Th K H 0 x := by
  unfold Th at h ⊢
  obtain ⟨t, a, b, c, d⟩ := h
  refine ⟨t, a, b, c, ?_⟩
  rcases d with d | ⟨d, a, xs, e, f, _⟩
  · exact .inl d
  · exact .inr ⟨d, a, xs, e, f, True.intro⟩
def numV (m : Int) : V → Bool
  | .int i => decide (0 ≤ i) && decide (i ≤ m)
  | _ => false
theorem numV_true {m : Int} {x : V} : numV m x = true ↔ ∃ i, x = .int i ∧ 0 ≤ i ∧ i ≤ m := by
  cases x <;> simp [numV]
theorem TyOf.ext {K : PySem.W.Frag} {H H' : Hp} {x : V} {t : Value} (h : TyOf K H x t) (e : Ext H H') : TyOf K H' x t := by
  cases h with
  | non => exact .non
  | bl x => exact .bl x
  | int i => exact .int i
  | str x => exact .str x
  | flt x => exact .flt x
  | lst h => exact .lst (e _ _ h)
  | frz h => exact .frz (e _ _ h)
  | tup h => exact .tup (e _ _ h)
  | dK h => exact .dK (e _ _ h)
  | dT h => exact .dT (e _ _ h)
  | ins h c a b d f => exact .ins (e _ _ h) c a b d f
theorem TyX.ext {K : PySem.W.Frag} {H H' : Hp} {x : V} {t : Value} (h : TyX K H x t) (e : Ext H H') : TyX K H' x t := by
  cases h with
  | base h => exact .base (TyOf.ext h e)
  | byt b => exact .byt b
  | set h => exact .set (e _ _ h)
  | kList h c => exact .kList h c
  | kTuple h c => exact .kTuple h c
  | kDict h c => exact .kDict h c
  | fTuple h => exact .fTuple (e _ _ h)
  | fDict h => exact .fDict (e _ _ h)
theorem Th.ext {K : PySem.W.Frag} {H H' : Hp} (e : Ext H H') : ∀ {n : Nat} {x : V}, Th K H n x → Th K H' n x
  | 0, x, h => by
    unfold Th at h ⊢
    obtain ⟨t, a, b, c, d⟩ := h
    refine ⟨t, TyX.ext a e, b, c, ?_⟩
    rcases d with ⟨d, f⟩ | ⟨d, a, xs, g, f, _⟩
    · exact .inl ⟨d, fun a q => let ⟨o, h1, h2⟩ := f a q; ⟨o, e _ _ h1, h2⟩⟩
    · exact .inr ⟨d, a, xs, g, e _ _ f, True.intro⟩
  | n + 1, x, h => by
    unfold Th at h ⊢
    obtain ⟨t, a, b, c, d⟩ := h
    refine ⟨t, TyX.ext a e, b, c, ?_⟩
    rcases d with ⟨d, f⟩ | ⟨d, a, xs, g, f, i⟩
    · exact .inl ⟨d, fun a q => let ⟨o, h1, h2⟩ := f a q; ⟨o, e _ _ h1, h2⟩⟩
    · exact .inr ⟨d, a, xs, g, e _ _ f, fun y hy => Th.ext e (i y hy)⟩
def spInteger (K : PySem.W.Frag) : Sp := fun vs H Q _ => ∃ x : V, vs = [x] ∧ Th K H 0 x ∧ Q (.bl (isI x)) H
def spNumber (K : PySem.W.Frag) : Sp := fun vs H Q _ => ∃ (m : Int) (x : V), vs = [.int m, x] ∧ Th K H 0 x ∧ Q (.bl (numV m x)) H
section
variable {P : Program} {w : World} {K : PySem.W.Frag} {mg : Str → Option Value} {base : Heap}
theorem scInt : FnScope ["thing"] ["thing"] (defScope sInteger) := ⟨rfl, rfl, rfl, by decide +kernel, rfl, by decide +kernel, by decide +kernel⟩
theorem ok_integer {f : Addr} {fd : FuncData} (F : L2.Fun K "is_integer" "is_integer" sInteger f fd) (T : Gb mg) : FnOk P w K mg base CX0 1 f fd ["thing"] (spInteger K) := by
  refine F.ok scInt (fun vs H Q E h => ?_) (fun cdv A outer s H vs Q E hr h => ?_)
  · obtain ⟨x, rfl, _⟩ := h
    rfl
  · obtain ⟨x, rfl, th, k⟩ := h
    unfold Th at th
    obtain ⟨t, ty, ki, kb, _⟩ := th
    refine ⟨_, pss_one (ps_ret (pe_and (pe_callB call_isi (by rfl) T.isi (by decide +kernel) (pa_cons (pv 0) (pa_cons (pe_bltn (v := .ty "int") (by rfl) T.int (by decide +kernel) rfl) pa_nil)))
      (pe_one (pe_not (pe_callB call_isi (by rfl) T.isi (by decide +kernel) (pa_cons (pv 0) (pa_cons (pe_bltn (v := .ty "bool") (by rfl) T.bool (by decide +kernel) rfl) pa_nil))))))), ?_⟩
    refine ⟨_, rfl, x, .ty "int", t, .type "int", _, rfl, .ty _, ty, ki, _, rfl, ?_⟩
    cases x <;> first
      | exact iteF k
      | (refine iteT ⟨_, rfl, _, .ty "bool", t, .type "bool", _, rfl, .ty _, ty, kb, _, rfl, ?_⟩; exact k)
theorem scNum : FnScope ["most", "thing"] ["most", "thing"] (defScope sNumber) := ⟨rfl, rfl, rfl, by decide +kernel, rfl, by decide +kernel, by decide +kernel⟩
theorem ok_number {f : Addr} {fd : FuncData} (F : L2.Fun K "is_number" "is_number" sNumber f fd) (cI : Cal P w K mg base 1 "is_integer" (spInteger K) []) : FnOk P w K mg base CX0 2 f fd ["most", "thing"] (spNumber K) := by
  refine F.ok scNum (fun vs H Q E h => ?_) (fun cdv A outer s H vs Q E hr h => ?_)
  · obtain ⟨m, x, rfl, _⟩ := h
    rfl
  · obtain ⟨m, x, rfl, th, k⟩ := h
    refine ⟨_, pss_one (ps_ret (pe_and (C8.pe_c cI hr (by decide) (by rfl) (pa_cons (pv 1) pa_nil)) (pe_one (pe_chain op_le op_le pe_int (pv 1) (pv 0))))), ?_⟩
    refine ⟨_, rfl, x, rfl, th, _, rfl, ?_⟩
    cases x with
    | int i =>
      refine iteT ⟨_, rfl, _, _, rfl, rfl, _, rfl, ?_⟩
      by_cases h0 : (0 : Int) ≤ i
      · rw [decide_eq_true h0]
        refine iteT ⟨_, rfl, _, _, rfl, rfl, ?_⟩
        have e : numV m (.int i) = decide (i ≤ m) := by simp [numV, h0]
        rw [e] at k
        exact k
      · rw [decide_eq_false h0]
        have e : numV m (.int i) = false := by simp [numV, h0]
        rw [e] at k
        exact iteF k
    | _ => exact iteF k
end
end E47

set_option Elab.async false
set_option linter.all false
set_option maxRecDepth 100000
set_option maxHeartbeats 4000000
set_option pp.maxSteps 60
namespace E47
open PySem L2
/-- what is tracked but for the bag -/
def Off (a c : Addr) (H : Hp) : Hp := fun b => if b = a ∨ b = c then none else H b
theorem off_at {a c b : Addr} {H : Hp} {o : HO} (h : b ≠ a ∧ b ≠ c) (e : H b = some o) : Off a c H b = some o := by
  unfold Off
  rw [if_neg (fun z => z.elim h.1 h.2)]
  exact e
theorem off_some {a c b : Addr} {H : Hp} {o : HO} (h : Off a c H b = some o) : b ≠ a ∧ b ≠ c ∧ H b = some o := by
  unfold Off at h
  by_cases e : b = a ∨ b = c
  · rw [if_pos e] at h; cases h
  · rw [if_neg e] at h; exact ⟨fun z => e (.inl z), fun z => e (.inr z), h⟩
theorem Go.off {a c : Addr} {H H' : Hp} (g : Go a c H H') : Ext (Off a c H) (Off a c H') := fun b o h => by
  obtain ⟨n, m, e⟩ := off_some h
  exact off_at ⟨n, m⟩ (g.2 b o n m e)
theorem off_le {a c : Addr} {H : Hp} : Ext (Off a c H) H := fun b o h => (off_some h).2.2
theorem off_tup {a c q : Addr} {H : Hp} {xs : List V} (p : BagAt H a c) (h : H q = some (.tup xs)) : (Off a c H) q = some (.tup xs) := off_at (bag_no p h fun _ z => nomatch z) h
/-! ### kinds of things -/
section
variable {K : PySem.W.Frag} {S : Hp} {n : Nat}
theorem Th.plain {x : V} {t : Value} (ty : TyX K S x t) (h1 : PySem.W.kitOne K t (.type "int") = some (isI x || isB x)) (h2 : PySem.W.kitOne K t (.type "bool") = some (isB x)) (h3 : PySem.W.kitOne K t (.type "tuple") = some false)
    (h : ∀ a, x = .ref a → ∃ o, S a = some o ∧ ∀ xs, o ≠ .tup xs) : Th K S n x := by
  unfold Th
  exact ⟨t, ty, h1, h2, .inl ⟨h3, h⟩⟩
theorem Th.non : Th K S n .non := Th.plain (.base .non) (kit_ty (by decide +kernel)) (kit_ty (by decide +kernel)) (kit_ty (by decide +kernel)) fun _ h => nomatch h
theorem Th.bl (b : Bool) : Th K S n (.bl b) := Th.plain (.base (.bl b)) (kit_ty (show kitB "bool" "int" = some true by decide +kernel)) (kit_ty (show kitB "bool" "bool" = some true by decide +kernel)) (kit_ty (by decide +kernel)) fun _ h => nomatch h
theorem Th.int (i : Int) : Th K S n (.int i) := Th.plain (.base (.int i)) (kit_ty (show kitB "int" "int" = some true by decide +kernel)) (kit_ty (show kitB "int" "bool" = some false by decide +kernel)) (kit_ty (by decide +kernel)) fun _ h => nomatch h
theorem Th.str (z : Str) : Th K S n (.str z) := Th.plain (.base (.str z)) (kit_ty (show kitB "str" "int" = some false by decide +kernel)) (kit_ty (show kitB "str" "bool" = some false by decide +kernel)) (kit_ty (by decide +kernel)) fun _ h => nomatch h
theorem Th.lst {p : Addr} {xs : List V} (h : S p = some (.lst xs)) : Th K S n (.ref p) :=
  Th.plain (.base (.lst h)) (kit_ty (show kitB "list" "int" = some false by decide +kernel)) (kit_ty (show kitB "list" "bool" = some false by decide +kernel)) (kit_ty (by decide +kernel)) fun a e => by cases e; exact ⟨_, h, fun _ z => nomatch z⟩
theorem Th.dct {p : Addr} {kvs : List (Key × V)} (h : S p = some (.dK kvs)) : Th K S n (.ref p) :=
  Th.plain (.base (.dK h)) (kit_ty (show kitB "dict" "int" = some false by decide +kernel)) (kit_ty (show kitB "dict" "bool" = some false by decide +kernel)) (kit_ty (by decide +kernel)) fun a e => by cases e; exact ⟨_, h, fun _ z => nomatch z⟩
theorem Th.tup {p : Addr} {xs : List V} (h : S p = some (.tup xs)) (it : ∀ y ∈ xs, Th K S n y) : Th K S (n + 1) (.ref p) := by
  unfold Th
  exact ⟨_, .base (.tup h), kit_ty (show kitB "tuple" "int" = some false by decide +kernel), kit_ty (show kitB "tuple" "bool" = some false by decide +kernel), .inr ⟨kit_ty (by decide +kernel), p, xs, rfl, h, it⟩⟩
end
theorem Th.tup0 {K : PySem.W.Frag} {S : Hp} {p : Addr} {xs : List V} (h : S p = some (.tup xs)) : Th K S 0 (.ref p) := by
  unfold Th
  exact ⟨_, .base (.tup h), kit_ty (show kitB "tuple" "int" = some false by decide +kernel), kit_ty (show kitB "tuple" "bool" = some false by decide +kernel), .inr ⟨kit_ty (by decide +kernel), p, xs, rfl, h, True.intro⟩⟩
theorem eqv_ints : ∀ l k : List Int, PyData.eqvAll (l.map .int) (k.map .int) = decide (l = k)
  | [], [] => by simp [PyData.eqvAll]
  | [], y :: k => by simp [PyData.eqvAll]
  | x :: l, [] => by simp [PyData.eqvAll]
  | x :: l, y :: k => by
    have ih := eqv_ints l k
    simp only [List.map_cons, PyData.eqvAll, PyData.eqv, ih]
    by_cases h : x = y <;> by_cases g : l = k <;> simp [h, g]
def dT (ll : List (List Int)) : PyData := .tuple (ll.map fun l => .tuple (l.map .int))
theorem eqv_lists : ∀ l k : List (List Int), PyData.eqvAll (l.map fun l => .tuple (l.map .int)) (k.map fun l => .tuple (l.map .int)) = decide (l = k)
  | [], [] => by simp [PyData.eqvAll]
  | [], y :: k => by simp [PyData.eqvAll]
  | x :: l, [] => by simp [PyData.eqvAll]
  | x :: l, y :: k => by
    have ih := eqv_lists l k
    simp only [List.map_cons, PyData.eqvAll, PyData.eqv, ih, eqv_ints]
    by_cases h : x = y <;> by_cases g : l = k <;> simp [h, g]
theorem eqv_dT (l k : List (List Int)) : PyData.eqv (dT l) (dT k) = decide (l = k) := by
  show PyData.eqvAll _ _ = _
  exact eqv_lists l k
theorem lay_ints : ∀ l : List Int, PyData.canLayAll0 (l.map .int) = true ∧ PyData.depthAll (l.map .int) = 0
  | [] => ⟨by simp [PyData.canLayAll0], by simp [PyData.depthAll]⟩
  | x :: l => by
    obtain ⟨h, g⟩ := lay_ints l
    exact ⟨by simp [PyData.canLayAll0, PyData.canLay0, h], by simp [PyData.depthAll, PyData.depth, g]⟩
theorem lay_lists : ∀ l : List (List Int), PyData.canLayAll0 (l.map fun l => .tuple (l.map .int)) = true ∧ PyData.depthAll (l.map fun l => .tuple (l.map .int)) ≤ 1
  | [] => ⟨by simp [PyData.canLayAll0], by simp [PyData.depthAll]⟩
  | x :: l => by
    obtain ⟨h, g⟩ := lay_lists l
    obtain ⟨h1, g1⟩ := lay_ints x
    refine ⟨by simp [PyData.canLayAll0, PyData.canLay0, h, h1], ?_⟩
    simp only [List.map_cons, PyData.depthAll, PyData.depth, g1]
    omega
theorem shaped_dT (l : List (List Int)) : SeqAt.shaped (dT l) = true := by
  obtain ⟨h, g⟩ := lay_lists l
  refine Bool.and_eq_true_iff.mpr ⟨by unfold dT; rw [PyData.canLay0]; exact h, decide_eq_true ?_⟩
  unfold dT
  rw [PyData.depth]
  exact Nat.le_trans (Nat.succ_le_succ g) (by decide)
/-- a tuple of tuples of ints stands at b -/
def TT (H : Hp) (b : Addr) (ll : List (List Int)) : Prop := ∃ as : List Addr, H b = some (.tup (as.map V.ref)) ∧ Paired (fun a l => H a = some (.tup (l.map V.int))) as ll
theorem Paired.imp' {α β : Type} {F G : α → β → Prop} (h : ∀ a b, F a b → G a b) : ∀ {l : List α} {k : List β}, Paired F l k → Paired G l k
  | _, _, .nil => .nil
  | _, _, .cons a r => .cons (h _ _ a) (Paired.imp' h r)
theorem TT.ext {H H' : Hp} {b : Addr} {ll : List (List Int)} (e : Ext H H') (h : TT H b ll) : TT H' b ll := by
  obtain ⟨as, h1, h2⟩ := h
  exact ⟨as, e _ _ h1, Paired.imp' (fun a l h => e _ _ h) h2⟩
theorem dp_ints {K : PySem.W.Frag} {H : Hp} : ∀ l : List Int, DpAll K H (l.map V.int) (l.map .int)
  | [] => .nil
  | x :: l => .cons (.int x) (dp_ints l)
theorem dp_lists {K : PySem.W.Frag} {H : Hp} : ∀ {as : List Addr} {ll : List (List Int)}, Paired (fun a l => H a = some (.tup (l.map V.int))) as ll → DpAll K H (as.map V.ref) (ll.map fun l => .tuple (l.map .int))
  | _, _, .nil => .nil
  | _, _, .cons h r => .cons (.tup (SqT.of h) (dp_ints _)) (dp_lists r)
theorem TT.dp {K : PySem.W.Frag} {H : Hp} {b : Addr} {ll : List (List Int)} (h : TT H b ll) : Dp K H (.ref b) (dT ll) := by
  obtain ⟨as, h1, h2⟩ := h
  exact .tup (SqT.of h1) (dp_lists h2)
/-- the tuples at these places are these -/
abbrev PT2 (S : Hp) (as : List Addr) (ll : List (List Int)) : Prop := Paired (fun a l => S a = some (.tup (l.map V.int))) as ll
theorem PT2.len {S : Hp} : ∀ {as : List Addr} {ll : List (List Int)}, PT2 S as ll → as.length = ll.length
  | _, _, .nil => rfl
  | _, _, .cons _ r => congrArg (· + 1) (PT2.len r)
theorem PT2.get {S : Hp} : ∀ {as : List Addr} {ll : List (List Int)} {i : Nat} {a : Addr}, PT2 S as ll → as[i]? = some a → ∃ l, ll[i]? = some l ∧ S a = some (.tup (l.map V.int))
  | _, _, i, _, .nil, h => by simp at h
  | _, _, 0, _, .cons x _, h => by cases h; exact ⟨_, rfl, x⟩
  | _, _, i + 1, _, .cons _ r, h => PT2.get (i := i) r (by simpa using h)
theorem PT2.put {S : Hp} {b : Addr} {l : List Int} (h : S b = some (.tup (l.map V.int))) : ∀ {as : List Addr} {ll : List (List Int)} {i : Nat}, PT2 S as ll → PT2 S (as.set i b) (ll.set i l)
  | _, _, i, .nil => by simpa using (Paired.nil)
  | _, _, 0, .cons _ r => .cons h r
  | _, _, i + 1, .cons x r => .cons x (PT2.put h r)
theorem PT2.snoc {S : Hp} {b : Addr} {l : List Int} {as : List Addr} {ll : List (List Int)} (r : PT2 S as ll) (h : S b = some (.tup (l.map V.int))) : PT2 S (as ++ [b]) (ll ++ [l]) := Paired.snoc r h
theorem PT2.mono {S S' : Hp} {as : List Addr} {ll : List (List Int)} (e : ∀ b xs, S b = some (.tup xs) → S' b = some (.tup xs)) (r : PT2 S as ll) : PT2 S' as ll := Paired.imp' (fun a l h => e _ _ h) r
theorem PT2.th {K : PySem.W.Frag} {S : Hp} {n : Nat} {as : List Addr} {ll : List (List Int)} (r : PT2 S as ll) : ∀ y ∈ as.map V.ref, Th K S (n + 1) y := by
  intro y hy
  obtain ⟨a, ha, rfl⟩ := List.mem_map.mp hy
  obtain ⟨i, hi⟩ := List.mem_iff_getElem?.mp ha
  obtain ⟨l, _, h⟩ := r.get hi
  refine Th.tup h fun z hz => ?_
  obtain ⟨k, _, rfl⟩ := List.mem_map.mp hz
  exact Th.int k
/-- two tuples put together, whichever object that is -/
theorem cat_any {K : PySem.W.Frag} {H : Hp} {Q : VK} {a b : Addr} {xs ys : List V} (ha : H a = some (.tup xs)) (hb : H b = some (.tup ys)) (len : xs.length + ys.length ≤ 1000) (k : ∀ (p : Addr) (H' : Hp), Ext H H' → H' p = some (.tup (xs ++ ys)) → Q (.ref p) H') : rCatA K (.ref a) (.ref b) H Q :=
  ⟨a, b, xs, ys, rfl, rfl, SqT.of ha, SqT.of hb, Nat.le_trans len (by decide), fun e => by subst e; exact k b H Ext.rfl' hb, fun _ e => by subst e; exact k a H Ext.rfl' (by rw [List.append_nil]; exact ha), fun _ _ p np => k p _ (Ext.upd np) upd_same⟩
theorem sl_any {K : PySem.W.Frag} {H : Hp} {Q : VK} {a : Addr} {xs : List V} {lo hi : Option Int} (ha : H a = some (.tup xs)) (k : ∀ (p : Addr) (H' : Hp), Ext H H' → H' p = some (.tup (cutV xs lo hi)) → Q (.ref p) H') : rSlA K (.ref a) lo hi H Q := by
  refine ⟨a, xs, rfl, SqT.of ha, fun z => k a H Ext.rfl' ?_, fun _ p np => k p _ (Ext.upd np) upd_same⟩
  unfold cutV
  rw [z.1, z.2, List.drop_zero, Nat.sub_zero, List.take_of_length_le (Nat.le_refl _)]
  exact ha
theorem cut_mem {xs : List V} {lo hi : Option Int} {y : V} (h : y ∈ cutV xs lo hi) : y ∈ xs := List.mem_of_mem_drop (List.mem_of_mem_take h)
theorem Th.tup_back {K : PySem.W.Frag} {H H1 : Hp} {n : Nat} {b : Addr} {xs : List V} (e : Ext H H1) (h : Th K H n (.ref b)) (h1 : H1 b = some (.tup xs)) : H b = some (.tup xs) := by
  unfold Th at h
  obtain ⟨t, _, _, _, h⟩ := h
  rcases h with ⟨_, h⟩ | ⟨_, b', ys, e', hb, _⟩
  · obtain ⟨o, ho, no⟩ := h b rfl
    rw [e _ _ ho] at h1
    cases h1
    exact absurd rfl (no xs)
  · cases e'
    have := (e _ _ hb).symm.trans h1
    cases this
    exact hb
theorem lst_ne {H : Hp} {f b : Addr} {xs ys : List V} (hf : H f = some (.lst xs)) (hb : H b = some (.tup ys)) : b ≠ f := fun e => by
  rw [e, hf] at hb
  cases hb
theorem int_inj : ∀ {ns ks : List Int}, ns.map V.int = ks.map V.int → ns = ks
  | [], [], _ => rfl
  | n :: ns, k :: ks, h => by
    injection h with h1 h2
    injection h1 with h1
    rw [h1, int_inj h2]
  | [], k :: ks, h => by cases h
  | n :: ns, [], h => by cases h
end E47

set_option Elab.async false
set_option linter.all false
set_option maxRecDepth 100000
set_option maxHeartbeats 4000000
set_option pp.maxSteps 60
/-! Things through and through; ascending tuples. -/
namespace E47
open PySem L2
/-- what a thing is, through tuples -/
inductive D where
  | oth
  | non
  | bl (b : Bool)
  | int (i : Int)
  | tup (ds : List D)
mutual
inductive TD (K : PySem.W.Frag) (H : Hp) : V → D → Prop
  | oth {x : V} {t : Value} : TyX K H x t → PySem.W.kitOne K t (.type "int") = some false → PySem.W.kitOne K t (.type "bool") = some false → PySem.W.kitOne K t (.type "tuple") = some false → isI x = false → isB x = false → x ≠ .non →
      (∀ a, x = .ref a → ∃ o, H a = some o ∧ ∀ xs, o ≠ .tup xs) → TD K H x .oth
  | non : TD K H .non .non
  | bl (b : Bool) : TD K H (.bl b) (.bl b)
  | int (i : Int) : TD K H (.int i) (.int i)
  | tup {a : Addr} {xs : List V} {ds : List D} : H a = some (.tup xs) → xs.length ≤ 1000 → TDs K H xs ds → TD K H (.ref a) (.tup ds)
inductive TDs (K : PySem.W.Frag) (H : Hp) : List V → List D → Prop
  | nil : TDs K H [] []
  | cons {x : V} {d : D} {xs : List V} {ds : List D} : TD K H x d → TDs K H xs ds → TDs K H (x :: xs) (d :: ds)
end
section
variable {K : PySem.W.Frag} {H : Hp}
theorem TDs.len : ∀ {xs : List V} {ds : List D}, TDs K H xs ds → xs.length = ds.length
  | _, _, .nil => rfl
  | _, _, .cons _ r => congrArg (· + 1) (TDs.len r)
theorem TDs.get : ∀ {xs : List V} {ds : List D} {i : Nat} {x : V}, TDs K H xs ds → xs[i]? = some x → ∃ d, ds[i]? = some d ∧ TD K H x d
  | _, _, i, _, .nil, h => by simp at h
  | _, _, 0, _, .cons x _, h => by cases h; exact ⟨_, rfl, x⟩
  | _, _, i + 1, _, .cons _ r, h => TDs.get (i := i) r (by simpa using h)
mutual
theorem TD.ext {H' : Hp} (e : Ext H H') : ∀ {x : V} {d : D}, TD K H x d → TD K H' x d
  | _, _, .oth a b c d f g h i => .oth (TyX.ext a e) b c d f g h fun q z => let ⟨o, h1, h2⟩ := i q z; ⟨o, e _ _ h1, h2⟩
  | _, _, .non => .non
  | _, _, .bl b => .bl b
  | _, _, .int i => .int i
  | _, _, .tup a b c => .tup (e _ _ a) b (TDs.ext e c)
theorem TDs.ext {H' : Hp} (e : Ext H H') : ∀ {xs : List V} {ds : List D}, TDs K H xs ds → TDs K H' xs ds
  | _, _, .nil => .nil
  | _, _, .cons a r => .cons (TD.ext e a) (TDs.ext e r)
end
mutual
theorem TD.th : ∀ {n : Nat} {x : V} {d : D}, TD K H x d → Th K H n x
  | _, _, _, .oth a b c d f g h i => Th.plain a (by rw [b, f, g]; rfl) (by rw [c, g]) d i
  | _, _, _, .non => Th.non
  | _, _, _, .bl b => Th.bl b
  | _, _, _, .int i => Th.int i
  | 0, _, _, .tup a _ _ => Th.tup0 a
  | n + 1, _, _, .tup a _ c => Th.tup a (TDs.th c)
theorem TDs.th : ∀ {n : Nat} {xs : List V} {ds : List D}, TDs K H xs ds → ∀ y ∈ xs, Th K H n y
  | _, _, _, .nil => fun y h => nomatch h
  | n, _, _, .cons a r => fun y h => by
    rcases List.mem_cons.mp h with e | h
    · rw [e]; exact TD.th a
    · exact TDs.th r y h
end
end
def numD (m : Int) : D → Bool
  | .int i => decide (0 ≤ i) && decide (i ≤ m)
  | _ => false
theorem num_td {K : PySem.W.Frag} {H : Hp} {m : Int} {x : V} {d : D} (h : TD K H x d) : numV m x = numD m d := by
  cases h with
  | oth a b c d f g h i => cases x <;> first | rfl | cases f
  | non => rfl
  | bl b => rfl
  | int i => rfl
  | tup a b c => rfl
theorem numD_true {m : Int} {d : D} : numD m d = true ↔ ∃ i, d = .int i ∧ 0 ≤ i ∧ i ≤ m := by
  cases d <;> simp [numD]
/-- an ascending tuple of numbers up to m -/
def AscP (m : Int) (d : D) : Prop := ∃ ns : List Int, d = .tup (ns.map .int) ∧ (∀ n ∈ ns, 0 ≤ n ∧ n ≤ m) ∧ ns.Pairwise (· < ·)
def spAsc (K : PySem.W.Frag) : Sp := fun vs H Q _ => ∃ (m : Int) (x : V) (d : D), vs = [.int m, x] ∧ TD K H x d ∧ ∀ (bb : Bool) (H' : Hp), (bb = true ↔ AscP m d) → Ext H H' → Q (.bl bb) H'
theorem adj_pairwise : ∀ (ns : List Int), (∀ p ∈ ns.zip ns.tail, p.1 < p.2) ↔ ns.Pairwise (· < ·)
  | [] => by simp
  | [n] => by simp
  | n :: m :: r => by
    have ih := adj_pairwise (m :: r)
    constructor
    · intro h
      have hm : n < m := h (n, m) (by simp)
      have hr := ih.mp fun p hp => h p (by
        show p ∈ (n, m) :: (m :: r).zip r
        exact List.mem_cons_of_mem _ hp)
      refine List.pairwise_cons.mpr ⟨fun a ha => ?_, hr⟩
      rcases List.mem_cons.mp ha with rfl | ha
      · exact hm
      · exact Int.lt_trans hm ((List.pairwise_cons.mp hr).1 a ha)
    · intro h p hp
      obtain ⟨h1, h2⟩ := List.pairwise_cons.mp h
      have hp' : p ∈ (n, m) :: (m :: r).zip r := hp
      rcases List.mem_cons.mp hp' with rfl | hp'
      · exact h1 m List.mem_cons_self
      · exact ih.mpr h2 p hp'
theorem low_ints {m : Int} : ∀ {ds : List D}, (∀ y ∈ ds, numD m y = true) → ∃ ns : List Int, ds = ns.map .int ∧ ∀ n ∈ ns, 0 ≤ n ∧ n ≤ m
  | [], _ => ⟨[], rfl, fun n h => by cases h⟩
  | y :: ys, h => by
    obtain ⟨i, rfl, h1, h2⟩ := numD_true.mp (h y List.mem_cons_self)
    obtain ⟨ns, rfl, h3⟩ := low_ints (ds := ys) fun z hz => h z (List.mem_cons_of_mem _ hz)
    refine ⟨i :: ns, rfl, fun n hn => ?_⟩
    rcases List.mem_cons.mp hn with rfl | hn
    · exact ⟨h1, h2⟩
    · exact h3 n hn
theorem ints_td {K : PySem.W.Frag} {H : Hp} : ∀ {ns : List Int} {xs : List V}, TDs K H xs (ns.map .int) → xs = ns.map V.int
  | [], _, .nil => rfl
  | n :: ns, _, .cons (.int _) r => by rw [List.map_cons, ints_td r]
theorem td_ints {K : PySem.W.Frag} {H : Hp} : ∀ (ns : List Int), TDs K H (ns.map V.int) (ns.map .int)
  | [] => .nil
  | n :: ns => .cons (.int n) (td_ints ns)
theorem dint_inj : ∀ {ns ks : List Int}, ns.map D.int = ks.map D.int → ns = ks
  | [], [], _ => rfl
  | n :: ns, k :: ks, h => by
    injection h with h1 h2
    injection h1 with h1
    rw [h1, dint_inj h2]
  | [], k :: ks, h => by cases h
  | n :: ns, [], h => by cases h
theorem map_int_get {ns : List Int} {i : Nat} {x : V} (h : (ns.map V.int)[i]? = some x) : ∃ n, ns[i]? = some n ∧ x = .int n := by
  rw [List.getElem?_map] at h
  cases e : ns[i]? with
  | none => rw [e] at h; cases h
  | some n => rw [e] at h; cases h; exact ⟨n, rfl, rfl⟩
/-- zip of a tuple and a shorter one -/
theorem lc_zipM {K : PySem.W.Frag} {a b : Addr} {xs ys : List V} {g : TG} {tt : L2.TT} {te : TE} {vs : List Nat} {τ : L2.St} {H1 : Hp} {D : Addr} {Qd : Hp → Prop} (len : ys.length ≤ xs.length) (Pv : Nat → Hp → Prop) (h0 : Pv 0 (upd H1 D (.lst [])))
    (hq : ∀ i H, Pv i H → SqT K H a xs ∧ SqT K H b ys)
    (hs : ∀ i x y t H, xs[i]? = some x → ys[i]? = some y → Pv i H → H t = none → g (.ref t) (wipe τ vs) (upd H t (.tup [x, y])) fun σ2 H2 => wipe σ2 vs = wipe τ vs ∧ tt σ2 H2 fun c H3 =>
      if c = true then te σ2 H3 fun z H4 => ∃ acc, H4 D = some (.lst acc) ∧ acc.length < sizeLine ∧ Pv (i + 1) (upd H4 D (.lst (acc ++ [z]))) else Pv (i + 1) H3) (hd : ∀ H, Pv ys.length H → Qd H) :
    ∃ W : Nat → Nat → Hp → Prop, (∃ m, W 0 m (upd H1 D (.lst []))) ∧ ∀ i m H, W i m H →
      ((RZ.ItzT K a b).stop i H ∧ Qd H) ∨ ((RZ.ItzT K a b).go i H ∧ ∃ Nx : Hp → Prop, (∀ H', Nx H' → ∃ m', m' < m ∧ W (i + 1) m' H') ∧ ∀ x H', (RZ.ItzT K a b).yld i H x H' → g x (wipe τ vs) H' fun σ2 H2 => wipe σ2 vs = wipe τ vs ∧ tt σ2 H2 fun c H3 =>
        if c = true then te σ2 H3 fun z H4 => ∃ acc, H4 D = some (.lst acc) ∧ acc.length < sizeLine ∧ Nx (upd H4 D (.lst (acc ++ [z]))) else Nx H3) := by
  refine ⟨fun i m H => m + i = ys.length ∧ Pv i H, ⟨ys.length, rfl, h0⟩, ?_⟩
  rintro i m H ⟨em, p⟩
  obtain ⟨qa, qb⟩ := hq i H p
  cases m with
  | zero =>
    have e : i = ys.length := by omega
    subst e
    exact .inl ⟨⟨xs, ys, qa, qb, .inr (Nat.le_refl _)⟩, hd H p⟩
  | succ k =>
    have lb : i < ys.length := by omega
    have la : i < xs.length := by omega
    have ea : xs[i]? = some xs[i] := List.getElem?_eq_getElem la
    have eb : ys[i]? = some ys[i] := List.getElem?_eq_getElem lb
    refine .inr ⟨⟨xs, ys, _, _, qa, qb, ea, eb⟩, Pv (i + 1), fun H' p' => ⟨k, Nat.lt_succ_self k, by omega, p'⟩, fun v H' y => ?_⟩
    obtain ⟨t, x', y', rfl, nt, rfl, f1, f2⟩ := y
    exact hs i x' y' t H (f1 xs qa) (f2 ys qb) p nt
/-- isinstance(x, tuple) -/
def isT : D → Bool | .tup _ => true | _ => false
theorem td_isT {K : PySem.W.Frag} {H : Hp} {x : V} {d : D} (h : TD K H x d) : ∃ t, TyX K H x t ∧ PySem.W.kitOne K t (.type "tuple") = some (isT d) := by
  cases h with
  | oth a b c d f g h i => exact ⟨_, a, d⟩
  | non => exact ⟨_, .base .non, kit_ty (show kitB "NoneType" "tuple" = some false by decide +kernel)⟩
  | bl b => exact ⟨_, .base (.bl b), kit_ty (show kitB "bool" "tuple" = some false by decide +kernel)⟩
  | int i => exact ⟨_, .base (.int i), kit_ty (show kitB "int" "tuple" = some false by decide +kernel)⟩
  | tup a b c => exact ⟨_, .base (.tup a), kit_ty (show kitB "tuple" "tuple" = some true by decide +kernel)⟩
structure MoreC (mg : Str → Option Value) : Prop where
  zip : mg "zip" = none
section
variable {P : Program} {w : World} {K : PySem.W.Frag} {mg : Str → Option Value} {base : Heap}
end
end E47

set_option Elab.async false
set_option linter.all false
set_option maxRecDepth 100000
set_option maxHeartbeats 4000000
set_option pp.maxSteps 60
/-! The bag. -/
namespace E47
open PySem L2
section
variable {P : Program} {w : World} {K : PySem.W.Frag} {mg : Str → Option Value} {base : Heap}
abbrev bagN : List Str := ["_law_script", "_law_great", "_law_seed", "_law_cell"]
theorem scBag : FnScope bagN ["_law_script"] (defScope sBag) := ⟨rfl, rfl, rfl, by decide +kernel, rfl, by decide +kernel, by decide +kernel⟩
theorem ok_bag {f : Addr} {fd : FuncData} (F : L2.Fun K "_law_bag" "_law_bag" sBag f fd) (T : Gb mg) : FnOk P w K mg base CX0 1 f fd ["_law_script"] (spBag K) := by
  refine F.ok scBag (fun vs H Q E h => ?_) (fun cdv A outer s H vs Q E hr h => ?_)
  · obtain ⟨a, ns, rfl, _⟩ := h
    rfl
  · obtain ⟨a, ns, rfl, hS, hlen, k⟩ := h
    refine ⟨_, pss_cons (ps_setLc (i := 1) (own := [("_law_cell", 3)]) (g := gName 3) rfl scBag.nd rfl rfl (sw_true rfl rfl rfl (by decide +kernel)) (pi_list (pe_slice sl_list (pv 0) po_none (po_some pe_int))) (blkOk_by (N := bagN) (sc := defScope sBag) (by decide +kernel))
        (fun _ _ _ _ _ => pg_name (i := 3) scBag.nd rfl (Or.inl rfl))
        (fun _ _ _ _ _ => pts_one (pt_cmpR op_ge (pe_callB call_abs (by rfl) T.abs (by decide +kernel) (pa_cons (pe_callTy call_int1 (by rfl) T.int (by decide +kernel) (pa_cons (pv 3) pa_nil)) pa_nil)) (pe_op op_pow pe_int pe_int) (nomark _)))
        (fun _ _ _ _ _ => pe_callB call_abs (by rfl) T.abs (by decide +kernel) (pa_cons (pe_callTy call_int1 (by rfl) T.int (by decide +kernel) (pa_cons (pv 3) pa_nil)) pa_nil)))
      (pss_cons (ps_set (i := 2) scBag.nd rfl (Or.inl rfl) pe_int)
      (pss_cons (ps_for PassesOwn.never rfl (pi_list (pe_slice sl_list (pv 0) po_none (po_some pe_int))) (pg_name (i := 3) scBag.nd rfl (Or.inl rfl))
        (pss_one (ps_set (i := 2) scBag.nd rfl (Or.inl rfl) (pe_op op_mod (pe_callTy call_int1 (by rfl) T.int (by decide +kernel) (pa_cons
          (pe_op op_add (pe_op op_add (pe_op op_add (pe_op op_mul (pv 2) pe_int) (pe_op op_mul (pe_callB call_abs (by rfl) T.abs (by decide +kernel) (pa_cons (pe_callTy call_int1 (by rfl) T.int (by decide +kernel) (pa_cons (pv 3) pa_nil)) pa_nil)) pe_int))
            (pe_callTy call_int1 (by rfl) T.int (by decide +kernel) (pa_cons (pe_cmpR op_lt (pe_callTy call_int1 (by rfl) T.int (by decide +kernel) (pa_cons (pv 3) pa_nil)) pe_int (nomark _)) pa_nil))) pe_int) pa_nil)) pe_int))))
      (pss_one (ps_ret (pe_lst (pa_cons (pv 1) (pa_cons (pv 2) (pa_cons (pe_callB call_len_seq (by rfl) T.len PySem.boot_len (pa_cons (pv 0) pa_nil)) (pa_cons pe_int pa_nil))))))))), ?_⟩
    have all : ∀ y ∈ cutV (ns.map V.int) Option.none (some 63), ∃ i, y = V.int i := fun y hy => by
      have hy := List.mem_of_mem_drop (List.mem_of_mem_take hy)
      obtain ⟨i, _, rfl⟩ := List.mem_map.mp hy
      exact ⟨i, rfl⟩
    have cl : (cutV (ns.map V.int) Option.none (some 63)).length ≤ 63 := Nat.le_trans (cutV_length _ _ _) (by rw [List.length_map]; exact hlen)
    refine ⟨_, rfl, 63, rfl, a, _, rfl, hS, fun l nl => ?_⟩
    generalize cutV (ns.map V.int) Option.none (some 63) = xs at *
    refine ⟨l, rfl, ⟨_, SqL.of upd_same⟩, fun D nD => lc_list (K := K) (a := l) (xs := xs) (fun i H' => ∃ cs : List Int, H' = upd (upd H l (.lst xs)) D (.lst (cs.map V.int)) ∧ cs.length ≤ i) ⟨[], rfl, Nat.le_refl _⟩ (fun i H' _ ⟨cs, e, _⟩ => by rw [e]; exact SqL.of (Ext.upd nD _ _ upd_same)) ?_ ?_⟩
    · rintro i y H' hy ⟨cs, rfl, hc⟩
      obtain ⟨z, rfl⟩ := all y (List.mem_of_getElem? hy)
      have hi := (List.getElem?_eq_some_iff.mp hy).1
      refine ⟨rfl, _, rfl, .inl ⟨_, rfl, _, rfl, _, _, rfl, rfl, ⟨by decide, by decide, by decide⟩, _, _, rfl, rfl, _, rfl, ?_⟩⟩
      refine ite2 (fun _ => ?_) (fun _ => ⟨cs, rfl, by omega⟩)
      refine ⟨_, rfl, .inl ⟨_, rfl, _, rfl, ?_⟩⟩
      refine ⟨_, upd_same, by rw [List.length_map]; exact small1000 (by omega), cs ++ [if z < 0 then -z else z], ?_, by rw [List.length_append]; exact Nat.succ_le_succ hc⟩
      rw [upd_upd, List.map_append]
      rfl
    · rintro H' ⟨cs, rfl, hc⟩
      have e1 : Ext H (upd (upd H l (.lst xs)) D (.lst (cs.map V.int))) := (Ext.upd nl).trans (Ext.upd nD)
      have gD : (upd (upd H l (.lst xs)) D (.lst (cs.map V.int))) D = some (.lst (cs.map V.int)) := upd_same
      generalize upd (upd H l (.lst xs)) D (.lst (cs.map V.int)) = H1 at *
      refine ⟨_, rfl, 63, rfl, a, _, rfl, hS.ext e1, fun l2 nl2 => ?_⟩
      have e2 := Ext.upd (o := .lst (cutV (ns.map V.int) Option.none (some 63))) nl2
      refine ⟨l2, rfl, ⟨_, SqL.of upd_same⟩, for_list (K := K) (a := l2) (xs := cutV (ns.map V.int) Option.none (some 63)) (fun i σ' H' => (∃ (z : Int) (v : Option V), σ' = [some (.ref a), some (.ref D), some (.int z), v]) ∧ H' = upd H1 l2 (.lst (cutV (ns.map V.int) Option.none (some 63)))) ⟨⟨147, _, rfl⟩, rfl⟩ (fun i σ' H' _ h => by rw [h.2]; exact SqL.of upd_same) ?_ ?_⟩
      · rintro i y σ' H' hy ⟨⟨z, v, rfl⟩, rfl⟩
        obtain ⟨c, hc'⟩ : ∃ c, y = V.int c := by
          have hy := List.mem_of_mem_drop (List.mem_of_mem_take (List.mem_of_getElem? hy))
          obtain ⟨i, _, rfl⟩ := List.mem_map.mp hy
          exact ⟨i, rfl⟩
        subst hc'
        refine ⟨_, rfl, _, _, rfl, rfl, .inr ⟨by decide, by decide⟩, ?_⟩
        refine ⟨_, rfl, .inl ⟨_, rfl, _, rfl, _, _, rfl, rfl, .inr ⟨by decide, by decide⟩, _, _, rfl, rfl, _, rfl, .inl ⟨_, rfl, _, _, rfl, rfl, .inr ⟨_, rfl, _, _, rfl, rfl, _, _, rfl, rfl, .inl ⟨_, rfl, _, _, rfl, rfl, (by show (0 : Int) < 2147483629; decide), ?_⟩⟩⟩⟩⟩
        exact ⟨⟨_, _, rfl⟩, rfl⟩
      · rintro σ' H' ⟨⟨z, v, rfl⟩, rfl⟩
        refine ⟨_, rfl, _, rfl, _, rfl, a, _, rfl, .inl ((hS.ext e1).ext e2), (by show 4 ≤ sizeLine; decide), fun r nr => ?_⟩
        exact k r D _ (fun b o hb => Ext.upd nr _ _ (e2 _ _ (e1 _ _ hb))) ⟨cs, z, _, 0, upd_same, Ext.upd nr _ _ (e2 _ _ gD)⟩
end
end E47

set_option Elab.async false
set_option linter.all false
set_option maxRecDepth 100000
set_option maxHeartbeats 4000000
set_option pp.maxSteps 60
/-! Exceptions. -/
namespace E47
open PySem L2
abbrev sWE : Stmt := inClass (top 4) 0
section
open PySem.Spec PyProof.Rows
structure ExIs (K : PySem.W.Frag) (C : Addr) : Prop where
  cls : (PySem.W.clsIn K C).isSome = true
  ga : PySem.W.findIn K (.ref C) "__getattribute__" = some (some (.builtin "BaseException.__getattribute__"))
  gt : PySem.W.findIn K (.ref C) "__getattr__" = some none
  sb : PySem.W.subIn K (.ref C) (.type "BaseException") = some true
  ha : PySem.W.findIn K (.ref C) "__class__" = some (some (.builtin "object.__class__"))
  hn : PySem.W.specialIn K (.builtin "object.__class__") "__get__" = some (some (.builtin "getset_descriptor.__get__"))
  ht : PySem.W.takesIn K (.builtin "object.__class__") = some true
  hm : PySem.W.mroIn K C (.type "object") = some true
variable {X : Cx} {pins : List (Addr × Obj)} {σ : L2.St} {H : Hp} {s : Shared} {a C : Addr} {fs : List (Str × V)}
/-- an exception made and kept -/
def tExv (C : Addr) (sp : Sp) (t : TA) : TE := fun σ H Q => t σ H fun vs H1 => vs.length ≤ 1000 ∧ ∀ a, H1 a = none → sp (.ref a :: vs) (upd H1 a (exo a C none)) (fun v H2 => v = .non ∧ Q (.ref a) H2) E0
variable {CX : CXT} {x : Str} {fI : Addr} {k : Nat} {fd : FuncData} {ps : List Str} {sp : Sp} {e : Expr} {es : List Expr} {ta : TA} {p pos : Pos}
theorem run_exv (T : OexC X.K C) (hi : PySem.W.findIn X.K (.ref C) "__init__" = some (some (.ref fI))) (ht : PySem.W.typeIn X.K (.ref fI) = some (.type "function"))
    (G : FnOk X.prog X.w X.K X.mg X.base CX k fI fd ps sp) (hr : Room (k + 1) X.A) (hb : Binds X.K fd ps []) (hx : Passes CX X E0) {vs : List V} {us : List Value} {H1 : Hp} {s1 : Shared} {Q : VK} (I1 : Inv X pins σ H1 s1) (r1 : Vals vs us) (hz : vs.length ≤ 1000)
    (q1 : ∀ a, H1 a = none → sp (.ref a :: vs) (upd H1 a (exo a C none)) (fun v H2 => v = .non ∧ Q (.ref a) H2) E0) : wpAny (model X.prog X.w) X.A (call (.ref C) us) (EP X pins σ Q) X.xe s1 := by
  obtain ⟨_, _, _, _, bm, _, _, _, _, _, _, _, _, _, _, inCls, mroOk⟩ := T.cls
  obtain ⟨h0, gs, dr, tk, os⟩ := s1
  let o := h0.objs.size + 1
  let h1 := (h0.push (PySem.W.kdv_tup us)).push (PySem.HandSPX.excO C h0.objs.size)
  have new : H1 o = none := I1.hok.fresh (Nat.le_succ _)
  have old : ∀ b u, h0.get? b = some u → h1.get? b = some u := fun b u q => Heap.get?_push_of_some _ (Heap.get?_push_of_some _ q)
  have there : h1.get? o = some (PySem.HandSPX.excO C h0.objs.size) := by
    show ((h0.push (PySem.W.kdv_tup us)).push (PySem.HandSPX.excO C h0.objs.size)).get? (h0.objs.size + 1) = _
    heap_get
  have J : Inv X pins σ (upd H1 o (exo o C none)) ⟨h1, gs, dr, tk, os⟩ := I1.laid (t' := tk) old (Nat.le_succ _) (exo_ok there)
  have asked := q1 o new
  have rr : Vals (V.ref o :: vs) (Value.ref o :: us) := .cons rfl r1
  have len : (Value.ref o :: us).length = ps.length := rr.length ▸ G.len _ _ _ _ asked
  have bound := hb _ (Value.ref o :: us) J.kIn (by rw [List.append_nil]; exact len)
  rw [List.append_nil] at bound
  have few : us.length ≤ sizeLine := by
    have q : us.length = vs.length := (Paired.length r1).symm
    rw [q, sizeLine_eq]
    omega
  have body := G.run _ X.stack _ _ ⟨Value.ref o :: us, []⟩ _ _ _ E0 (hr.make C us []) (J.env0.make C us []) bound rr asked
  refine wpAny_call (PySem.HandSPX.call_own F.excBase_ValueError (fun Y => PySem.HandSPX.refsVE_contains Y bm mroOk) (I1.kIn _ _ inCls) (PySem.W.looks_findIn I1.kIn hi) (fun self => PySem.W.bind_fn I1.kIn self ht) few (codeAny_mono body ?_))
  intro out s2 z
  match out, z with
  | .error er, z => exact hx pins σ _ _ er s2 J z
  | .ok (.ret u), z =>
    obtain ⟨v, H2, J2, rv, ev, qq⟩ := J.after z
    subst ev
    exact ⟨rv, .ref o, H2, J2, rfl, qq⟩
  | .ok .next, z => exact z.elim
  | .ok .brk, z => exact z.elim
  | .ok .cont, z => exact z.elim
theorem pe_exv0 (T : OexC X.K C) (iC : PySem.W.findIn X.K (.ref C) "__init__" = some (some (.ref fI))) (tI : PySem.W.typeIn X.K (.ref fI) = some (.type "function"))
    (F1 : FnOk X.prog X.w X.K X.mg X.base CX k fI fd ps sp) (hr : Room (k + 1) X.A) (hb : Binds X.K fd ps []) (hx : Passes CX X E0) (hg : Gl X x) (hm : X.mg x = some (.ref C))
    (hdb : (x == ("__debug__" : Str)) = false := by decide) :
    PE X (.Call (.Name x p) [] [] pos) (tExv C sp tNil) := by
  refine ⟨fun pins s σ H Q I h => ?_⟩
  refine wpAny_Call_Name_kw (ld_glob I hg hm ?_ hdb)
  obtain ⟨hz, q1⟩ := h
  exact PySem.W.callWith_K0 I.kIn T.kC (run_exv (us := []) T iC tI F1 hr hb hx I .nil hz q1)
end
section
open PySem.Spec PyProof.Rows
/-- raising an exception without fields that has just been made -/
theorem pmk_v {X : Cx} {e : Expr} {te : TE} (none' : X.ex = []) (he : PE X e te) :
    PMk X e (fun τ H Q => te τ H fun x J => ∃ a C, x = .ref a ∧ J a = some (exo a C none) ∧ X.H_0 a = none ∧ OexC X.K C ∧ Q (.ref C) none (delH J a)) := by
  intro pins s τ H Q I want
  refine thn (he.run pins s τ H _ I want) fun u s1 ⟨v, J, I1, r, a, C, ex, ha, h0, T, z⟩ => ?_
  subst ex
  obtain rfl : u = Value.ref a := r
  obtain ⟨t1, there⟩ := exo_at I1.hok ha
  obtain ⟨G, le, gone, I2⟩ := I1.untrack ha (fr0_none h0) none'
  exact ⟨a, _, _, { s1 with heap := G }, delH J a, .ref C, none, rfl, I2, le, gone, there, ⟨rfl, rfl⟩, rfl, rfl, delH_same, rfl, I1.bare, raises_own T.exC T.tyC, z⟩
theorem ps_raise_v {X : Cx} {pos : Pos} (H0 : Hp) (K0 : PySem.W.Frag) {W : WX} {e : Expr} {te : TE} (tk : Takes X W) (e0 : X.H_0 = H0) (eK : X.K = K0) (he : PE X e te) (calm : X.calm = true := by rfl) (none' : X.ex = [] := by rfl) :
    PS X (.Raise (some e) none pos) (fun _ τ H => te τ H fun x J => ∃ a C, x = .ref a ∧ J a = some (exo a C none) ∧ H0 a = none ∧ OexC K0 C ∧ W (.ref C) none τ (delH J a)) := by
  subst e0 eK
  exact ps_raise calm tk (pmk_v none' he)
end
theorem kit_same {K : PySem.W.Frag} {C : Addr} : PySem.W.kitOne K (.ref C) (.ref C) = some true := by
  unfold PySem.W.kitOne
  rw [if_pos (beq_self_eq_true _)]
def spF0 : Sp := fun vs H Q _ => ∃ a : Addr, vs = [.ref a] ∧ Q .non H
/-- an error class without fields: what the top has written of it -/
structure ErrC (K : PySem.W.Frag) (mg : Str → Option Value) (x : Str) (C fI : Addr) : Prop where
  ex : OexC K C
  iC : PySem.W.findIn K (.ref C) "__init__" = some (some (.ref fI))
  tI : PySem.W.typeIn K (.ref fI) = some (.type "function")
  gC : mg x = some (.ref C)
  is : ExIs K C
theorem ext_delH {H H1 : Hp} {a : Addr} {o : HO} (e : Ext H H1) (na : H1 a = none) : Ext H (delH (upd H1 a o) a) := fun b u h => by
  have h1 := e _ _ h
  have ne := ne_of_none h1 na
  unfold delH
  rw [if_neg ne, upd_ne ne]
  exact h1
theorem none_back {H H1 : Hp} {a : Addr} (e : Ext H H1) (na : H1 a = none) : H a = none := by
  cases q : H a with
  | none => rfl
  | some u => rw [e _ _ q] at na; cases na
/-- a raise of a class without fields -/
theorem raise0 {K : PySem.W.Frag} {mg : Str → Option Value} {C : Addr} {x : Str} {fI : Addr} (N : ErrC K mg x C fI) {H H1 : Hp} {E : XK} {τ : L2.St} (e : Ext H H1) (k : ∀ H', Ext H H' → E (.ref C) none H') :
    tExv C spF0 tNil τ H1 (fun x J => ∃ a C', x = .ref a ∧ J a = some (exo a C' none) ∧ H a = none ∧ OexC K C' ∧ E (.ref C') none (delH J a)) :=
  ⟨Nat.zero_le _, fun a na => ⟨a, rfl, rfl, a, C, rfl, upd_same, none_back e na, N.ex, k _ (ext_delH e na)⟩⟩
section
variable {P : Program} {w : World} {K : PySem.W.Frag} {mg : Str → Option Value} {base : Heap}
theorem scWE : FnScope ["self"] ["self"] (defScope sWE) := ⟨rfl, rfl, rfl, by decide +kernel, rfl, by decide +kernel, by decide +kernel⟩
theorem ok_we {f : Addr} {fd : FuncData} (F : L2.Fun K "__init__" "WebError.__init__" sWE f fd) : FnOk P w K mg base CX0 1 f fd ["self"] spF0 := by
  refine F.ok scWE (fun vs H Q E h => ?_) (fun cdv A outer s H vs Q E hr h => ?_)
  · obtain ⟨a, rfl, _⟩ := h
    rfl
  · obtain ⟨a, rfl, k⟩ := h
    exact ⟨_, pss_one ps_pass, k⟩
end
end E47

set_option Elab.async false
set_option linter.all false
set_option maxRecDepth 100000
set_option maxHeartbeats 4000000
set_option pp.maxSteps 60
/-! Things that are shown: what they are, how long their words are. -/
namespace E47
open PySem L2 LamX
mutual
inductive PD (H : Hp) : V → PyData → Prop
  | non : PD H .non .none
  | bl (b : Bool) : PD H (.bl b) (.bool b)
  | int (i : Int) : PD H (.int i) (.int i)
  | str (x : Str) : PD H (.str x) (.str x)
  | lst {a : Addr} {xs : List V} {ds : List PyData} : H a = some (.lst xs) → xs.length ≤ 1000 → PDs H xs ds → PD H (.ref a) (.list ds)
  | tup {a : Addr} {xs : List V} {ds : List PyData} : H a = some (.tup xs) → xs.length ≤ 1000 → PDs H xs ds → PD H (.ref a) (.tuple ds)
  | dct0 {a : Addr} : H a = some (.dK []) → PD H (.ref a) (.dict [])
  | dct1 {a p : Addr} : H a = some (.dK [(.inl 0, .ref p)]) → H p = some (.tup [.int 0, .int 1]) → PD H (.ref a) (.dict [(.int 0, .tuple [.int 0, .int 1])])
inductive PDs (H : Hp) : List V → List PyData → Prop
  | nil : PDs H [] []
  | cons {x : V} {d : PyData} {xs : List V} {ds : List PyData} : PD H x d → PDs H xs ds → PDs H (x :: xs) (d :: ds)
end
mutual
theorem PD.extN {H H' : Hp} (e : ExtN H H') : ∀ {x : V} {d : PyData}, PD H x d → PD H' x d
  | _, _, .non => .non
  | _, _, .bl b => .bl b
  | _, _, .int i => .int i
  | _, _, .str x => .str x
  | _, _, .lst a b c => .lst (e _ _ a (fun _ z => by cases z)) b (PDs.extN e c)
  | _, _, .tup a b c => .tup (e _ _ a (fun _ z => by cases z)) b (PDs.extN e c)
  | _, _, .dct0 a => .dct0 (e _ _ a (fun _ z => by cases z))
  | _, _, .dct1 a b => .dct1 (e _ _ a (fun _ z => by cases z)) (e _ _ b (fun _ z => by cases z))
theorem PDs.extN {H H' : Hp} (e : ExtN H H') : ∀ {xs : List V} {ds : List PyData}, PDs H xs ds → PDs H' xs ds
  | _, _, .nil => .nil
  | _, _, .cons a b => .cons (PD.extN e a) (PDs.extN e b)
end
theorem PD.ext {H H' : Hp} {x : V} {d : PyData} (e : Ext H H') (h : PD H x d) : PD H' x d := h.extN (ExtN.of e)
theorem PDs.ext {H H' : Hp} {xs : List V} {ds : List PyData} (e : Ext H H') (h : PDs H xs ds) : PDs H' xs ds := h.extN (ExtN.of e)
theorem PDs.len {H : Hp} : ∀ {xs : List V} {ds : List PyData}, PDs H xs ds → xs.length = ds.length
  | _, _, .nil => rfl
  | _, _, .cons _ r => congrArg (· + 1) (PDs.len r)
theorem PDs.get {H : Hp} : ∀ {xs : List V} {ds : List PyData} {i : Nat} {x : V}, PDs H xs ds → xs[i]? = some x → ∃ d, ds[i]? = some d ∧ PD H x d
  | _, _, i, _, .nil, h => by simp at h
  | _, _, 0, _, .cons x _, h => by cases h; exact ⟨_, rfl, x⟩
  | _, _, i + 1, _, .cons _ r, h => PDs.get (i := i) r (by simpa using h)
theorem PDs.append {H : Hp} : ∀ {xs : List V} {ds : List PyData} {ys : List V} {es : List PyData}, PDs H xs ds → PDs H ys es → PDs H (xs ++ ys) (ds ++ es)
  | _, _, _, _, .nil, h => h
  | _, _, _, _, .cons a r, h => .cons a (PDs.append r h)
/-! ### as a thing through tuples -/
mutual
def dOf : PyData → D
  | .none => .non
  | .bool b => .bl b
  | .int i => .int i
  | .tuple ds => .tup (dOfs ds)
  | .str _ => .oth
  | .list _ => .oth
  | .dict _ => .oth
def dOfs : List PyData → List D
  | [] => []
  | d :: ds => dOf d :: dOfs ds
end
section
variable {K : PySem.W.Frag} {S : Hp}
theorem TD.lst {p : Addr} {xs : List V} (h : S p = some (.lst xs)) : TD K S (.ref p) .oth := .oth (.base (.lst h)) (kit_ty (show kitB "list" "int" = some false by decide +kernel)) (kit_ty (show kitB "list" "bool" = some false by decide +kernel)) (kit_ty (show kitB "list" "tuple" = some false by decide +kernel)) rfl rfl (fun z => nomatch z) fun a e => by cases e; exact ⟨_, h, fun _ z => nomatch z⟩
theorem TD.dct {p : Addr} {kvs : List (Key × V)} (h : S p = some (.dK kvs)) : TD K S (.ref p) .oth := .oth (.base (.dK h)) (kit_ty (show kitB "dict" "int" = some false by decide +kernel)) (kit_ty (show kitB "dict" "bool" = some false by decide +kernel)) (kit_ty (show kitB "dict" "tuple" = some false by decide +kernel)) rfl rfl (fun z => nomatch z) fun a e => by cases e; exact ⟨_, h, fun _ z => nomatch z⟩
theorem TD.str (z : Str) : TD K S (.str z) .oth := .oth (.base (.str z)) (kit_ty (show kitB "str" "int" = some false by decide +kernel)) (kit_ty (show kitB "str" "bool" = some false by decide +kernel)) (kit_ty (show kitB "str" "tuple" = some false by decide +kernel)) rfl rfl (fun z => nomatch z) fun a e => nomatch e
mutual
theorem PD.td : ∀ {x : V} {d : PyData}, PD S x d → TD K S x (dOf d)
  | _, _, .non => .non
  | _, _, .bl b => .bl b
  | _, _, .int i => .int i
  | _, _, .str x => TD.str x
  | _, _, .lst a _ _ => TD.lst a
  | _, _, .tup a b c => .tup a b (PDs.td c)
  | _, _, .dct0 a => TD.dct a
  | _, _, .dct1 a _ => TD.dct a
theorem PDs.td : ∀ {xs : List V} {ds : List PyData}, PDs S xs ds → TDs K S xs (dOfs ds)
  | _, _, .nil => .nil
  | _, _, .cons a r => .cons (PD.td a) (PDs.td r)
end
theorem PD.th {n : Nat} {x : V} {d : PyData} (h : PD S x d) : Th K S n x := (PD.td h).th
end
/-- a list's or a tuple's items -/
def seqOf : PyData → Option (List PyData)
  | .list ds => some ds
  | .tuple ds => some ds
  | _ => none
theorem kit_lt {K : PySem.W.Frag} {S : Hp} {x : V} {d : PyData} (h : PD S x d) : ∃ t, TyX K S x t ∧ PySem.W.kitAny K t [.type "list", .type "tuple"] = some (seqOf d).isSome := by
  have no : ∀ {z : String}, PySem.W.kitOne K (.type z) (.type "list") = some false → PySem.W.kitOne K (.type z) (.type "tuple") = some false → PySem.W.kitAny K (.type z) [.type "list", .type "tuple"] = some false := fun h1 h2 => by
    unfold PySem.W.kitAny
    rw [h1]
    unfold PySem.W.kitAny
    rw [h2]
    unfold PySem.W.kitAny
    rfl
  cases h with
  | non => exact ⟨_, .base .non, no (kit_ty (by decide +kernel)) (kit_ty (by decide +kernel))⟩
  | bl b => exact ⟨_, .base (.bl b), no (kit_ty (by decide +kernel)) (kit_ty (by decide +kernel))⟩
  | int i => exact ⟨_, .base (.int i), no (kit_ty (by decide +kernel)) (kit_ty (by decide +kernel))⟩
  | str z => exact ⟨_, .base (.str z), no (kit_ty (by decide +kernel)) (kit_ty (by decide +kernel))⟩
  | lst a _ _ =>
    refine ⟨_, .base (.lst a), ?_⟩
    have e1 : PySem.W.kitOne K (.type "list") (.type "list") = some true := kit_ty (by decide +kernel)
    unfold PySem.W.kitAny
    rw [e1]
    rfl
  | tup a _ _ =>
    refine ⟨_, .base (.tup a), ?_⟩
    have e1 : PySem.W.kitOne K (.type "tuple") (.type "list") = some false := kit_ty (by decide +kernel)
    have e2 : PySem.W.kitOne K (.type "tuple") (.type "tuple") = some true := kit_ty (by decide +kernel)
    unfold PySem.W.kitAny
    rw [e1]
    unfold PySem.W.kitAny
    rw [e2]
    rfl
  | dct0 a => exact ⟨_, .base (.dK a), no (kit_ty (by decide +kernel)) (kit_ty (by decide +kernel))⟩
  | dct1 a _ => exact ⟨_, .base (.dK a), no (kit_ty (by decide +kernel)) (kit_ty (by decide +kernel))⟩
/-! ### how long the words are -/
structure Ok (n m : Nat) (d : PyData) : Prop where
  sh : d.showable = true
  len : d.shown.length ≤ n
  dep : d.depth ≤ m
theorem Ok.mono {n m n' m' : Nat} {d : PyData} (h : Ok n m d) (a : n ≤ n') (b : m ≤ m') : Ok n' m' d := ⟨h.sh, Nat.le_trans h.len a, Nat.le_trans h.dep b⟩
theorem textFrom_up : ∀ (ts : List Str) (k : Nat) (acc : Str), (textFrom k acc ts).length ≤ acc.length + piled ts
  | [], k, acc => by show acc.length ≤ _; omega
  | t :: r, k, acc => by
    have ih := textFrom_up r (k + 1) (acc ++ (if k > 0 then ", " else "" : String) ++ t)
    have e : (acc ++ (if k > 0 then ", " else "" : String) ++ t).length ≤ acc.length + 2 + t.length := by
      rw [strLen_append, strLen_append]
      split
      · exact Nat.le_refl _
      · show acc.length + 0 + t.length ≤ _
        omega
    rw [piled_cons]
    show (textFrom (k + 1) _ r).length ≤ _
    omega
theorem listText_up (ts : List Str) : (listText ts).length ≤ 2 + piled ts := by
  unfold listText
  have := textFrom_up ts 0 "["
  rw [strLen_append]
  show (textFrom 0 "[" ts).length + 1 ≤ _
  have e : (("[" : String) : Str).length = 1 := rfl
  omega
theorem tupleText_up (ts : List Str) : (tupleText ts).length ≤ 3 + piled ts := by
  unfold tupleText
  rw [strLen_append, strLen_append]
  have e : (("(" : String) : Str).length = 1 := rfl
  have e3 : (Str.join ", " ts).length ≤ piled ts := by
    by_cases h : ts = []
    · subst h
      exact Nat.le_refl 0
    · have := join_length_add ts h
      omega
  have e4 : ((if ts.length == 1 then ",)" else ")" : String) : Str).length ≤ 2 := by split <;> decide
  omega
theorem all_ok {n m : Nat} : ∀ {ds : List PyData}, (∀ d ∈ ds, Ok n m d) → PyData.showableAll ds = true ∧ piled (PyData.shownAll ds) ≤ ds.length * (n + 2) ∧ PyData.depthAll ds ≤ m
  | [], _ => ⟨by simp [PyData.showableAll], by simp [PyData.shownAll, piled], by simp [PyData.depthAll]⟩
  | d :: ds, h => by
    obtain ⟨a, b, c⟩ := h d List.mem_cons_self
    obtain ⟨a', b', c'⟩ := all_ok (ds := ds) fun e he => h e (List.mem_cons_of_mem _ he)
    refine ⟨by simp [PyData.showableAll, a, a'], ?_, ?_⟩
    · simp only [PyData.shownAll, piled_cons, List.length_cons, Nat.add_mul]
      omega
    · simp only [PyData.depthAll]
      omega
theorem ok_list {n m N : Nat} {ds : List PyData} (h : ∀ d ∈ ds, Ok n m d) (hN : 3 + ds.length * (n + 2) ≤ N) : Ok N (m + 1) (.list ds) := by
  obtain ⟨a, b, c⟩ := all_ok h
  refine ⟨by simpa [PyData.showable] using a, ?_, by simp only [PyData.depth]; omega⟩
  simp only [PyData.shown]
  have := listText_up (PyData.shownAll ds)
  omega
theorem ok_tuple {n m N : Nat} {ds : List PyData} (h : ∀ d ∈ ds, Ok n m d) (hN : 3 + ds.length * (n + 2) ≤ N) : Ok N (m + 1) (.tuple ds) := by
  obtain ⟨a, b, c⟩ := all_ok h
  refine ⟨by simpa [PyData.showable] using a, ?_, by simp only [PyData.depth]; omega⟩
  simp only [PyData.shown]
  have := tupleText_up (PyData.shownAll ds)
  omega
/-- some thing whose word is no longer than n -/
def AnyP (n m : Nat) (S : Hp) (x : V) : Prop := ∃ d, PD S x d ∧ Ok n m d
theorem AnyP.extN {n m : Nat} {S S' : Hp} {x : V} (e : ExtN S S') (h : AnyP n m S x) : AnyP n m S' x := let ⟨d, a, b⟩ := h; ⟨d, a.extN e, b⟩
theorem AnyP.ext {n m : Nat} {S S' : Hp} {x : V} (e : Ext S S') (h : AnyP n m S x) : AnyP n m S' x := h.extN (ExtN.of e)
theorem AnyP.mono {n m n' m' : Nat} {S : Hp} {x : V} (h : AnyP n m S x) (a : n ≤ n') (b : m ≤ m') : AnyP n' m' S x := let ⟨d, p, q⟩ := h; ⟨d, p, q.mono a b⟩
theorem anyps {n m : Nat} {S : Hp} : ∀ {xs : List V}, (∀ x ∈ xs, AnyP n m S x) → ∃ ds, PDs S xs ds ∧ ∀ d ∈ ds, Ok n m d
  | [], _ => ⟨[], .nil, fun _ z => nomatch z⟩
  | x :: xs, h => by
    obtain ⟨d, hd, od⟩ := h x List.mem_cons_self
    obtain ⟨ds, hs, os⟩ := anyps (xs := xs) fun y hy => h y (List.mem_cons_of_mem _ hy)
    refine ⟨d :: ds, .cons hd hs, fun e he => ?_⟩
    rcases List.mem_cons.mp he with rfl | he
    · exact od
    · exact os e he
theorem AnyP.tup {n m N : Nat} {S : Hp} {p : Addr} {xs : List V} (h : S p = some (.tup xs)) (hl : xs.length ≤ 1000) (it : ∀ x ∈ xs, AnyP n m S x) (hN : 3 + xs.length * (n + 2) ≤ N) : AnyP N (m + 1) S (.ref p) := by
  obtain ⟨ds, hs, os⟩ := anyps it
  exact ⟨_, .tup h hl hs, ok_tuple os (by rw [← hs.len]; exact hN)⟩
theorem AnyP.lst {n m N : Nat} {S : Hp} {p : Addr} {xs : List V} (h : S p = some (.lst xs)) (hl : xs.length ≤ 1000) (it : ∀ x ∈ xs, AnyP n m S x) (hN : 3 + xs.length * (n + 2) ≤ N) : AnyP N (m + 1) S (.ref p) := by
  obtain ⟨ds, hs, os⟩ := anyps it
  exact ⟨_, .lst h hl hs, ok_list os (by rw [← hs.len]; exact hN)⟩
theorem anyp_int {S : Hp} {i : Int} (h : -1000000000000 ≤ i ∧ i ≤ 1000000000000) : AnyP 20 0 S (.int i) := by
  have h2 : i.natAbs < 10 ^ 13 := by omega
  refine ⟨_, .int i, ?_, ?_, Nat.le_refl 0⟩
  · have h3 : i.natAbs.log2 < 44 := by
      rcases Nat.eq_zero_or_pos i.natAbs with z | z
      · rw [z]; decide
      · exact (Nat.log2_lt (by omega)).mpr (Nat.lt_of_lt_of_le h2 (by decide))
    show decide (i.natAbs.log2 < 1920) = true
    exact decide_eq_true (by omega)
  · show (Str.ofString (toString i)).length ≤ 20
    rw [ofString_length]
    have := int_text_length_le10 (a := i) (k := 13) (by decide) h2
    omega
theorem anyp_non {S : Hp} : AnyP 20 0 S .non := ⟨_, .non, by decide +kernel, by decide +kernel, by decide +kernel⟩
theorem anyp_bl {S : Hp} (b : Bool) : AnyP 20 0 S (.bl b) := ⟨_, .bl b, by cases b <;> decide +kernel, by cases b <;> decide +kernel, by cases b <;> decide +kernel⟩
theorem anyp_x {S : Hp} : AnyP 20 0 S (.str "x") := ⟨_, .str _, by decide +kernel, by decide +kernel, by decide +kernel⟩
end E47

set_option Elab.async false
set_option linter.all false
set_option maxRecDepth 100000
set_option maxHeartbeats 4000000
set_option pp.maxSteps 60
/-! A comprehension over anything, its test told beforehand: what is made of each turn. -/
namespace E47
open PySem L2
theorem ref_get {as : List Addr} {j : Nat} {y : V} (h : (as.map V.ref)[j]? = some y) : ∃ b, as[j]? = some b ∧ y = .ref b := by
  rw [List.getElem?_map] at h
  cases e : as[j]? with
  | none => rw [e] at h; cases h
  | some b => rw [e] at h; cases h; exact ⟨b, rfl, rfl⟩
/-- tuples stay -/
def TExt (H H' : Hp) : Prop := ∀ b xs, H b = some (.tup xs) → H' b = some (.tup xs)
theorem TExt.of {H H' : Hp} (e : Ext H H') : TExt H H' := fun b xs h => e b _ h
theorem TExt.trans {H H1 H2 : Hp} (x : TExt H H1) (y : TExt H1 H2) : TExt H H2 := fun b xs h => y b xs (x b xs h)
theorem TExt.put {H : Hp} {l : Addr} {xs ys : List V} (h : H l = some (.lst xs)) : TExt H (upd H l (.lst ys)) := fun b zs hb => by
  rw [upd_ne (lst_ne h hb)]
  exact hb
theorem lc_gen {J : It} {n : Nat} {G : Hp → Prop} {Y : Nat → Hp → V → Hp → Prop} (w : Walk J n G Y) {g : TG} {tt : L2.TT} {te : TE} {vs : List Nat} {σ : L2.St} {H : Hp} {D : Addr} {Qd : Hp → Prop} (nD : H D = none) (n1000 : n ≤ 1000) (p : Nat → Bool) (Pr : Nat → V → Hp → Prop)
    (mono : ∀ i y H1 H2, TExt H1 H2 → Pr i y H1 → Pr i y H2) (hG : ∀ H', Ext H H' → G H')
    (hs : ∀ i x H1 H' (R : VK) (N : Hp → Prop), i < n → Ext H H1 → Y i H1 x H' → (p i = true → ∀ y H4, Ext H1 H4 → Pr i y H4 → R y H4) → (p i = false → ∀ H4, Ext H1 H4 → N H4) →
      g x (wipe σ vs) H' fun σ2 H2 => wipe σ2 vs = wipe σ vs ∧ tt σ2 H2 fun b H3 => if b = true then te σ2 H3 R else N H3)
    (hd : ∀ ys H', Ext H H' → H' D = some (.lst ys) → Paired (fun i y => Pr i y H') ((List.range n).filter p) ys → Qd H') :
    ∃ W : Nat → Nat → Hp → Prop, (∃ m, W 0 m (upd H D (.lst []))) ∧ ∀ i m H, W i m H →
      (J.stop i H ∧ Qd H) ∨ (J.go i H ∧ ∃ Nx : Hp → Prop, (∀ H', Nx H' → ∃ m', m' < m ∧ W (i + 1) m' H') ∧ ∀ x H', J.yld i H x H' → g x (wipe σ vs) H' fun σ2 H2 => wipe σ2 vs = wipe σ vs ∧ tt σ2 H2 fun b H3 =>
        if b = true then te σ2 H3 fun y H4 => ∃ acc, H4 D = some (.lst acc) ∧ acc.length < sizeLine ∧ Nx (upd H4 D (.lst (acc ++ [y]))) else Nx H3) := by
  refine lc_it w (fun i H' => Ext H H' ∧ ∃ ys, H' D = some (.lst ys) ∧ Paired (fun i y => Pr i y H') ((List.range i).filter p) ys) ⟨Ext.upd nD, [], upd_same, .nil⟩ (fun i H' _ z => hG H' z.1) ?_ ?_
  · rintro i x H1 H' hi ⟨e1, ys, hD, pr⟩ y
    have ly : ys.length ≤ i := by
      rw [← Paired.length pr]
      exact Nat.le_trans (List.length_filter_le _ _) (by rw [List.length_range]; exact Nat.le_refl _)
    refine hs i x H1 H' _ _ hi e1 y (fun hp z H4 e4 hz => ?_) (fun hp H4 e4 => ?_)
    · have hD4 := e4 _ _ hD
      have t4 : TExt H4 (upd H4 D (.lst (ys ++ [z]))) := TExt.put hD4
      refine ⟨ys, hD4, small1000 (by omega), fun b o hb => ?_, ys ++ [z], upd_same, ?_⟩
      · rw [upd_ne (ne_of_none hb nD)]
        exact e4 _ _ (e1 _ _ hb)
      · rw [List.range_succ, List.filter_append]
        have ef : [i].filter p = [i] := by rw [List.filter_cons, if_pos hp]; rfl
        rw [ef]
        exact Paired.snoc (Paired.imp' (fun j u q => mono _ _ _ _ ((TExt.of e4).trans t4) q) pr) (mono _ _ _ _ t4 hz)
    · refine ⟨e1.trans e4, ys, e4 _ _ hD, ?_⟩
      rw [List.range_succ, List.filter_append]
      have ef : [i].filter p = [] := by rw [List.filter_cons, if_neg (by rw [hp]; exact Bool.false_ne_true)]; rfl
      rw [ef, List.append_nil]
      exact Paired.imp' (fun j u q => mono _ _ _ _ (TExt.of e4) q) pr
  · rintro H' ⟨e, ys, hD, pr⟩
    exact hd ys H' e hD pr
/-- .. of flags -/
theorem flags_of {t : Nat → Bool} {n : Nat} {ys : List V} (h : Paired (fun i y => y = V.bl (t i)) ((List.range n).filter fun _ => true) ys) : ys = ((List.range n).map t).map V.bl := by
  rw [List.filter_eq_self.mpr fun _ _ => rfl] at h
  generalize List.range n = r at h
  induction h with
  | nil => rfl
  | cons a _ ih => rw [List.map_cons, List.map_cons, ← ih, a]
theorem vals_of {f : Nat → V} {n : Nat} {p : Nat → Bool} {ys : List V} (h : Paired (fun i y => y = f i) ((List.range n).filter p) ys) : ys = ((List.range n).filter p).map f := by
  generalize (List.range n).filter p = r at h
  induction h with
  | nil => rfl
  | cons a _ ih => rw [List.map_cons, ← ih, a]
theorem range_map {α β : Type} {ds : List α} {n : Nat} (f : α → β) (z : α) (h : n = ds.length) : (List.range n).map (fun i => f (ds.getD i z)) = ds.map f := by
  subst h
  refine List.ext_getElem (by simp) fun i h1 h2 => ?_
  simp at h1
  simp [List.getElem?_eq_getElem h1]
def rLenS (K : PySem.W.Frag) : List V → Hp → VK → Prop := fun xs H Q => ∃ p ys, xs = [.ref p] ∧ (SqL K H p ys ∨ SqT K H p ys) ∧ Q (.int ys.length) H
theorem call_lenS {X : Cx} : CallR X (.builtin "len") (rLenS X.K) := call_len_seq
end E47

set_option Elab.async false
set_option linter.all false
set_option maxRecDepth 100000
set_option maxHeartbeats 4000000
set_option pp.maxSteps 60
/-! Pairs of numbers. -/
namespace E47
open PySem L2
def pD (p : Int × Int) : D := .tup [.int p.1, .int p.2]
def PairsP (many others : Int) (d : D) : Prop := ∃ ps : List (Int × Int), d = .tup (ps.map pD) ∧ (∀ p ∈ ps, (0 ≤ p.1 ∧ p.1 < many) ∧ 0 ≤ p.2 ∧ p.2 < others) ∧ (ps.map (·.1)).Pairwise (· < ·) ∧ (ps.map (·.2)).Nodup
def two : D → Bool
  | .tup [_, _] => true
  | _ => false
theorem two_true {d : D} (h : two d = true) : ∃ a b, d = .tup [a, b] := by
  unfold two at h
  split at h
  · exact ⟨_, _, rfl⟩
  · cases h
theorem two_len {ds : List D} : two (.tup ds) = decide (ds.length = 2) := by
  match ds with
  | [] => rfl
  | [a] => rfl
  | [a, b] => rfl
  | a :: b :: c :: r => simp [two]
/-- tuples of two, taken apart -/
theorem split2 {K : PySem.W.Frag} {H : Hp} : ∀ {xs : List V} {ds : List D}, TDs K H xs ds → (∀ d ∈ ds, two d = true) → ∃ (as : List Addr) (vs : List (V × V)) (pq : List (D × D)), xs = as.map V.ref ∧ ds = pq.map (fun r => D.tup [r.1, r.2]) ∧
    Paired (fun a v => H a = some (.tup [v.1, v.2])) as vs ∧ TDs K H (vs.map (·.1)) (pq.map (·.1)) ∧ TDs K H (vs.map (·.2)) (pq.map (·.2))
  | _, _, .nil, _ => ⟨[], [], [], rfl, rfl, .nil, .nil, .nil⟩
  | _, _, .cons (x := x) (d := d) a r, h => by
    obtain ⟨as, vs, pq, rfl, rfl, h1, h2, h3⟩ := split2 r fun d hd => h d (List.mem_cons_of_mem _ hd)
    obtain ⟨d1, d2, rfl⟩ := two_true (h d List.mem_cons_self)
    cases a with
    | tup ha hl ts =>
      rename_i a xs
      cases ts with
      | @cons v1 _ _ _ t1 ts =>
        cases ts with
        | @cons v2 _ _ _ t2 ts =>
          cases ts
          exact ⟨a :: as, (v1, v2) :: vs, (d1, d2) :: pq, rfl, rfl, .cons ha h1, .cons t1 h2, .cons t2 h3⟩
theorem paired_get {α β : Type} {F : α → β → Prop} : ∀ {l : List α} {k : List β} {i : Nat} {a : α}, Paired F l k → l[i]? = some a → ∃ b, k[i]? = some b ∧ F a b
  | _, _, i, _, .nil, h => by simp at h
  | _, _, 0, _, .cons x _, h => by cases h; exact ⟨_, rfl, x⟩
  | _, _, i + 1, _, .cons _ r, h => paired_get (i := i) r (by simpa using h)
theorem pq_zip : ∀ {pq : List (D × D)} {ns ms : List Int}, pq.map Prod.fst = ns.map .int → pq.map Prod.snd = ms.map .int → pq = (ns.zip ms).map (fun p => (D.int p.1, D.int p.2)) ∧ ns.length = ms.length
  | [], ns, ms, h1, h2 => by
    have e1 : ns = [] := List.map_eq_nil_iff.mp h1.symm
    have e2 : ms = [] := List.map_eq_nil_iff.mp h2.symm
    subst e1 e2
    exact ⟨rfl, rfl⟩
  | r :: pq, [], ms, h1, h2 => by cases h1
  | r :: pq, n :: ns, [], h1, h2 => by cases h2
  | r :: pq, n :: ns, m :: ms, h1, h2 => by
    injection h1 with a1 a2
    injection h2 with b1 b2
    obtain ⟨e, l⟩ := pq_zip a2 b2
    refine ⟨?_, by simp [l]⟩
    rw [List.zip_cons_cons, List.map_cons, ← e]
    congr 1
    exact Prod.ext a1 b1
theorem pD_fst {pq : List (D × D)} {ps : List (Int × Int)} (e : (pq.map fun r => D.tup [r.1, r.2]) = ps.map pD) : pq.map Prod.fst = (ps.map (·.1)).map .int ∧ pq.map Prod.snd = (ps.map (·.2)).map .int := by
  constructor
  · have := congrArg (List.map fun d : D => match d with | .tup (x :: _) => x | _ => .oth) e
    rw [List.map_map, List.map_map] at this
    rw [List.map_map]
    exact this
  · have := congrArg (List.map fun d : D => match d with | .tup (_ :: y :: _) => y | _ => .oth) e
    rw [List.map_map, List.map_map] at this
    rw [List.map_map]
    exact this
/-- the dict of flags under these numbers -/
def kvsOf (ms : List Int) : List (Key × V) := ms.foldl (fun k m => putK k (.inl m) (.bl true)) []
theorem kvsOf_snoc (ms : List Int) (m : Int) : kvsOf (ms ++ [m]) = putK (kvsOf ms) (.inl m) (.bl true) := by
  unfold kvsOf
  rw [List.foldl_append]
  rfl
theorem putK_any {kvs : List (Key × V)} {k x : Key} {v : V} : ((putK kvs k v).any fun kv => decide (kv.1 = x)) = ((kvs.any fun kv => decide (kv.1 = x)) || decide (k = x)) := by
  unfold putK
  by_cases c : (kvs.any fun kv => decide (kv.1 = k)) = true
  · rw [if_pos c, List.any_map]
    have e : ((fun kv : Key × V => decide (kv.1 = x)) ∘ fun kv => if kv.1 = k then (kv.1, v) else kv) = fun kv : Key × V => decide (kv.1 = x) := by
      funext kv
      show decide ((if kv.1 = k then (kv.1, v) else kv).1 = x) = _
      by_cases z : kv.1 = k
      · rw [if_pos z]
      · rw [if_neg z]
    rw [e]
    by_cases z : k = x
    · subst z
      rw [c]; rfl
    · rw [decide_eq_false z, Bool.or_false]
  · rw [if_neg c, List.any_append]
    congr 1
    simp
theorem snoc_ind {α : Type} {P : List α → Prop} (h0 : P []) (h1 : ∀ l x, P l → P (l ++ [x])) (l : List α) : P l := by
  rw [← List.reverse_reverse l]
  induction l.reverse with
  | nil => exact h0
  | cons x r ih => rw [List.reverse_cons]; exact h1 _ _ ih
theorem kvsOf_mem (m : Int) : ∀ (ms : List Int), ((kvsOf ms).any fun kv => decide (kv.1 = Sum.inl m)) = decide (m ∈ ms) := by
  refine snoc_ind rfl fun ms x ih => ?_
  · rw [kvsOf_snoc, putK_any, ih]
    by_cases h1 : m ∈ ms
    · simp [h1]
    · by_cases h2 : x = m
      · subst h2; simp
      · have h3 : ¬ m = x := fun z => h2 z.symm
        have h4 : ¬ (Sum.inl x : Key) = Sum.inl m := fun z => h2 (by injection z)
        simp [h1, h3, h4]
theorem kvsOf_len : ∀ ms : List Int, (kvsOf ms).length ≤ ms.length ∧ ((kvsOf ms).length = ms.length ↔ ms.Nodup) := by
  refine snoc_ind ⟨Nat.le_refl _, by simp [kvsOf]⟩ fun ms x ih => ?_
  · obtain ⟨h1, h2⟩ := ih
    rw [kvsOf_snoc]
    have hm := kvsOf_mem x ms
    unfold putK
    by_cases c : x ∈ ms
    · rw [if_pos (by rw [hm]; exact decide_eq_true c), List.length_map, List.length_append]
      refine ⟨by simp; omega, ⟨fun z => ?_, fun z => ?_⟩⟩
      · simp at z; omega
      · rw [List.nodup_append] at z
        exact absurd rfl (z.2.2 x c x (by simp))
    · rw [if_neg (by rw [hm, decide_eq_false c]; exact Bool.false_ne_true), List.length_append, List.length_append]
      refine ⟨by simp; omega, ⟨fun z => ?_, fun z => ?_⟩⟩
      · simp at z
        rw [List.nodup_append]
        refine ⟨h2.mp z, by simp, fun a ha b hb e => ?_⟩
        simp at hb
        subst hb
        exact c (e ▸ ha)
      · rw [List.nodup_append] at z
        simp
        exact h2.mpr z.1
theorem decI {i j : Int} : decide (V.int i = V.int j) = decide (i = j) := by
  by_cases h : i = j
  · rw [h]; simp
  · rw [decide_eq_false h, decide_eq_false fun z => h (by injection z)]
def spPairs (K : PySem.W.Frag) : Sp := fun vs H Q _ => ∃ (m o : Nat) (x : V) (d : D), vs = [.int (m : Int), .int (o : Int), x] ∧ TD K H x d ∧ ∀ (bb : Bool) (H' : Hp), (bb = true ↔ PairsP (m : Int) (o : Int) d) → Ext H H' → Q (.bl bb) H'
section
variable {P : Program} {w : World} {K : PySem.W.Frag} {mg : Str → Option Value} {base : Heap}
end
end E47

set_option Elab.async false
set_option linter.all false
set_option maxRecDepth 100000
set_option maxHeartbeats 4000000
/-! enumerate over a tuple that is tracked: the iterator (by the library's WalksT.enumerateD over Draws.tuple), the rule of the layer, the loop. -/
namespace E47
open PySem L2 PyProof.Rows
open PySem.Sem (wp)
theorem en_new (l : Addr) (us : Array Value) (n : Nat) (dd : Option Addr) (sl : Array (Option Value)) :
    Meets (Builtin.«enumerate.__new__» ⟨[.type "enumerate", .ref l], []⟩) fun _ R s => s.heap.get? l = some { cls := .type "tuple", dict := dd, data := .seq us n, slots := sl } ∧
      R (.ok (.ret (.ref (s.heap.objs.size + 1)))) { s with heap := (s.heap.push { cls := .type "tuple_iterator", data := .fields #[.ref l, .int 0 0] }).push { cls := .type "enumerate", data := .fields #[.none, .bool false, .ref s.heap.objs.size, rawInt 0, .none, .none] } } := by
  refine .of_wp fun prog w A R s hh => ?_
  rcases s with ⟨hp, gs, dr, tk, os⟩
  rcases hh with ⟨there, hR⟩
  have isT : Heap.IsTuple (Shared.heap ⟨hp, gs, dr, tk, os⟩) l us := ⟨_, there, rfl, n, rfl⟩
  have same := sub_enumerate
  have big : (hp.push { cls := .type "tuple_iterator", data := .fields #[.ref l, .int 0 0] }).objs.size = hp.objs.size + 1 := Heap.size_push ..
  have hR' : R (.ok (.ret (.ref (hp.push { cls := .type "tuple_iterator", data := .fields #[.ref l, .int 0 0] }).objs.size))) ⟨(hp.push { cls := .type "tuple_iterator", data := .fields #[.ref l, .int 0 0] }).push { cls := .type "enumerate", data := .fields #[.none, .bool false, .ref hp.objs.size, rawInt 0, .none, .none] }, gs, dr, tk, os⟩ := by
    rw [big]; exact hR
  wp_walk using AutoSeq1.wpAny_loadPart' there
  refine wpAny_stack_any fun st => wpAny_pure ?_
  split
  · rename_i c _ _ _ _ _
    cases (c == Value.type "enumerate") <;>
    · wp_walk using AutoSeq1.wpAny_loadPart' there, wpAny_pyIter_tuple isT
      exact ⟨_, rfl, hR'⟩
  · wp_walk using AutoSeq1.wpAny_loadPart' there, wpAny_pyIter_tuple isT
    exact ⟨_, rfl, hR'⟩
theorem call_en {prog : Program} {w : World} {A : Around} {E : Value → Shared → Prop} {s : Shared} {l : Addr} {us : Array Value} {Q : Value → Shared → Prop} (isT : s.heap.IsTuple l us)
    (h : ∀ h' : Heap, IsEnum h' (s.heap.objs.size + 1) s.heap.objs.size 0 .none → h'.IsTupleIter s.heap.objs.size l 0 → (∀ b o, s.heap.get? b = some o → h'.get? b = some o) → Q (.ref (s.heap.objs.size + 1)) { s with heap := h' }) :
    wpAny (model prog w) A (call (.type "enumerate") [.ref l]) Q E s := by
  rcases isT with ⟨⟨c, dd, dt, sl⟩, there, hc, n, hd⟩
  obtain rfl : c = .type "tuple" := hc
  obtain rfl : dt = .seq us n := hd
  refine callType_new F.called_enumerate (by decide) (F.typeCall_enumerate_1 _) (F.newCall_enumerate_1 _) (fun obj => F.args_object_init_2 obj _) F.entry_enumerate_new (en_new l us n dd sl) ⟨there, ?_⟩
  have big : (s.heap.push { cls := .type "tuple_iterator", data := .fields #[.ref l, .int 0 0] }).objs.size = s.heap.objs.size + 1 := Heap.size_push ..
  have en : IsEnum ((s.heap.push { cls := .type "tuple_iterator", data := .fields #[.ref l, .int 0 0] }).push { cls := .type "enumerate", data := .fields #[.none, .bool false, .ref s.heap.objs.size, rawInt 0, .none, .none] }) (s.heap.objs.size + 1) s.heap.objs.size 0 .none := by
    rw [← big]
    exact Heap.get?_push_size _ rfl
  exact ⟨⟨_, en, rfl⟩, h _ en ⟨_, Heap.get?_push_of_some _ (Heap.get?_push_size _ rfl), rfl, rfl⟩ fun b o z => Heap.get?_push_of_some _ (Heap.get?_push_of_some _ z)⟩
/-- the items of the tracked tuple at a, each in a new pair with its number -/
def ItEn (a : Addr) : It where
  go := fun i H => ∃ (xs : List V) (x : V), H a = some (.tup xs) ∧ xs[i]? = some x
  yld := fun i H v H' => ∃ (p : Addr) (x : V), v = .ref p ∧ H p = none ∧ H' = upd H p (.tup [.int (i : Nat), x]) ∧ ∀ xs, H a = some (.tup xs) → xs[i]? = some x
  stop := fun i H => ∃ xs : List V, H a = some (.tup xs) ∧ xs.length = i
def enAt (a e it : Addr) (i : Nat) (h : Heap) : Prop := (∃ old, IsEnum h e it (i : Int) old) ∧ h.IsTupleIter it a i ∧ e ≠ it
section
variable {X : Cx} {pins : List (Addr × Obj)} {σ : L2.St} {H : Hp} {s : Shared} {a e it : Addr} {xs : List V}
/-- the library's walk, at a state that the layer knows -/
theorem en_walk (hc : X.calm = true) (I : Inv X pins σ H s) (hf : ∀ b ∈ [e, it], FpOk X pins H b) (hne : e ≠ it) (hq : H a = some (.tup xs)) :
    ∃ its : List Value, Vals xs its ∧ s.heap.IsTuple a its.toArray ∧ WalksT X.prog X.w X.A e (e :: [it, a]) [e, it] its.toArray.size (fun i vals => ∃ t x, its.toArray[i]? = some x ∧ vals = #[.int i t, x])
      (fun i h => (∃ old, IsEnum h e it i old) ∧ (h.IsTupleIter it a i ∧ h.IsTuple a its.toArray)) (fun i T h => (∃ x, IsEnumOut h e it ((i : Int) + 1) x T) ∧ (h.IsTupleIter it a (i + 1) ∧ h.IsTuple a its.toArray) ∧ T ≠ e ∧ T ≠ it) := by
  obtain ⟨its, rv, p, _⟩ := I.tuple (SqT.of hq)
  have un : ∀ b ∈ [e, it], b ≠ a := fun b hb z => by
    have n := (hf b hb).1
    rw [z, hq] at n
    cases n
  refine ⟨its, rv, p, WalksT.enumerateD (Draws.tuple (A := X.A.in1) (I.ok.hd hc) it a (Ne.symm (un it (by simp))) its.toArray) e hne ?_ (by simp)⟩
  intro z
  rcases List.mem_cons.mp z with z | z
  · exact hne z
  · exact un e (by simp) (List.mem_singleton.mp z)
end
theorem en_turn {P : Program} {w : World} {K : PySem.W.Frag} {elts : List Expr} {kk : Nat} {tpos : Pos} (a e it : Addr) : Turn P w K (.Tuple elts kk tpos) (ItEn a) [e, it] e (enAt a e it) := by
  refine ⟨by simp, fun i h st b hb => ?_, fun i h h' st k => ⟨?_, ?_, st.2.2⟩, ?_, ?_, fun A i s Q E st q => ?_⟩
  · rcases st with ⟨⟨old, en⟩, ⟨ob, there, _, dt⟩, _⟩
    rcases List.mem_cons.mp hb with z | z
    · subst z
      exact ⟨_, en, fun v q => by cases q⟩
    · rw [List.mem_singleton.mp z]
      exact ⟨ob, there, fun v q => by rw [dt] at q; cases q⟩
  · exact st.1.imp fun old en => k e (by simp) _ en
  · exact st.2.1.at fun ob z => k it (by simp) ob z
  · intro X eP eW eK hc i pins s σ H E I hf st go
    subst eP eW eK
    obtain ⟨xs, x, hq, hx⟩ := go
    obtain ⟨its, rv, isT, W⟩ := en_walk hc I hf st.2.2 hq
    obtain ⟨u, hu, ru⟩ := rv.get hx
    have lt : i < its.toArray.size := by simpa using (List.getElem?_eq_some_iff.mp hu).1
    refine W.item i s _ E lt ⟨st.1, st.2.1, isT⟩ fun T vals h1 tk pt big hT mid keep1 => ⟨_, rfl, ?_⟩
    obtain ⟨t, y, hy, rfl⟩ := pt
    obtain rfl : y = u := by
      have hu' : its.toArray[i]? = some u := by simpa using hu
      exact Option.some.inj (hy.symm.trans hu')
    refine W.go elts kk tpos i T { s with heap := h1, toks := tk } _ E mid fun h2 st2 keep2 => ?_
    have nT : T ∉ [e, it] := W.apart i T h1 mid
    have hT2 : h2.IsTuple T #[.int (i : Nat) t, y] := hT.at fun ob z => keep2 T ob nT z
    have J : Inv X pins σ (upd H T (.tup [.int (i : Nat), x])) { s with heap := h2, toks := tk } :=
      I.turnedNew (ch := [e, it]) (fun b ob hb z => keep2 b ob hb (keep1 b ob hb z)) hf big ⟨by show 2 ≤ sizeLine; decide, [.int i t, y], .cons ⟨_, rfl⟩ (.cons ru .nil), hT2⟩
    refine ⟨.ref T, _, J, rfl, ⟨T, x, rfl, I.hok.fresh big, rfl, fun ys hy => by rw [hq] at hy; cases hy; exact hx⟩, ⟨st2.1, st2.2.1, st.2.2⟩, fun b hb => ?_⟩
    have nb : b ≠ T := fun z => nT (by rw [← z]; exact hb)
    rw [upd_ne nb]
    exact (hf b hb).1
  · intro X eP eW eK hc i pins s σ H E I hf st stop
    subst eP eW eK
    obtain ⟨xs, hq, hl⟩ := stop
    obtain ⟨its, rv, isT, W⟩ := en_walk hc I hf st.2.2 hq
    have ei : its.toArray.size = i := by
      rw [← hl, rv.length]
      simp
    refine W.done s _ E ?_ fun h1 tk keep => ⟨rfl, ?_⟩
    · rw [ei]
      exact ⟨st.1, st.2.1, isT⟩
    · exact I.turnedL (ch := [e, it]) keep hf
  · exact wpAny_pyIter_enum st.1.choose_spec q
def iEn (ta : TA) : TI := fun σ H R => ta σ H fun vs H1 => ∃ (a : Addr) (xs : List V), vs = [.ref a] ∧ H1 a = some (.tup xs) ∧ R (ItEn a) H1
/-- for .., .. in enumerate(a tuple) -/
theorem pi_en {X : Cx} {e : Expr} {ta : TA} {p pos tpos : Pos} {elts : List Expr} {kk : Nat} (hg : Gl X "enumerate") (hm : X.mg "enumerate" = none) (ha : PA X [e] ta) (hs : starEach [e] X.env = [(false, eval e X.env)] := by rfl) :
    PI X (.Tuple elts kk tpos) (.Call (.Name "enumerate" p) [e] [] pos) (iEn ta) := by
  constructor
  intro pins s σ H R I h
  refine Call_ (ld_blt I hg hm boot_enumerate (PyProof.Rows.callWith_type1 (thn (ha.run pos pins s σ H _ I h) ?_) hs rfl))
  rintro us s1 ⟨vs, H1, I1, r, a, xs, rfl, hq, q⟩
  match us, r with
  | [u], .cons ru .nil =>
    obtain rfl : u = Value.ref a := ru
    obtain ⟨its, rv, isT, _⟩ := I1.tuple (SqT.of hq)
    refine call_en isT fun h1 en ti keep => wpAny_pyIter_enum en ?_
    refine ⟨_, [s1.heap.objs.size + 1, s1.heap.objs.size], _, _, H1, rfl, I1.kept (t' := s1.toks) keep, en_turn a _ _, ⟨⟨.none, en⟩, ti, Nat.succ_ne_self _⟩, fun b hb => ?_, q⟩
    have big : s1.heap.objs.size ≤ b := by
      rcases List.mem_cons.mp hb with z | z
      · rw [z]; exact Nat.le_succ _
      · rw [List.mem_singleton.mp z]; exact Nat.le_refl _
    exact I1.fpOk big (I1.hok.fresh big)
/-- the loop by an invariant of its own -/
theorem for_en {a : Addr} {xs : List V} {g : TG} {tb : TS} {D : Ends} {σ : L2.St} {H : Hp} (Pv : Nat → L2.St → Hp → Prop) (h0 : Pv 0 σ H) (hl : ∀ i σ H, Pv i σ H → H a = some (.tup xs))
    (hs : ∀ (i : Nat) x σ H p, xs[i]? = some x → Pv i σ H → H p = Option.none → g (.ref p) σ (upd H p (.tup [.int (i : Nat), x])) fun σ2 H2 => tb { D with nx := Pv (i + 1), ct := Pv (i + 1), bk := D.nx } σ2 H2) (hd : ∀ σ H, Pv xs.length σ H → D.nx σ H) :
    ∃ W : Nat → Nat → L2.St → Hp → Prop, (∃ m, W 0 m σ H) ∧ ∀ i m σ H, W i m σ H → ((ItEn a).stop i H ∧ D.nx σ H) ∨ ((ItEn a).go i H ∧ ∃ N : L2.St → Hp → Prop, (∀ σ' H', N σ' H' → ∃ m', m' < m ∧ W (i + 1) m' σ' H') ∧ ∀ x H', (ItEn a).yld i H x H' → g x σ H' fun σ2 H2 => tb { D with nx := N, ct := N, bk := D.nx } σ2 H2) := by
  refine ⟨fun i m σ H => i + m = xs.length ∧ Pv i σ H, ⟨_, Nat.zero_add _, h0⟩, ?_⟩
  intro i m σ H ⟨em, p⟩
  have q := hl i σ H p
  cases m with
  | zero =>
    have ei : i = xs.length := em
    rw [ei] at p ⊢
    exact .inl ⟨⟨xs, q, rfl⟩, hd σ H p⟩
  | succ m =>
    have lt : i < xs.length := by omega
    have hx : xs[i]? = some xs[i] := List.getElem?_eq_getElem lt
    refine .inr ⟨⟨xs, _, q, hx⟩, Pv (i + 1), fun σ' H' p' => ⟨m, Nat.lt_succ_self m, by omega, p'⟩, ?_⟩
    rintro y H' ⟨t, x, rfl, nt, rfl, hy⟩
    obtain rfl : x = xs[i] := Option.some.inj ((hy xs q).symm.trans hx)
    exact hs i _ σ H t hx p nt
end E47

set_option Elab.async false
set_option linter.all false
set_option maxRecDepth 100000
set_option maxHeartbeats 4000000
set_option pp.maxSteps 100
/-! Lists or tuples; bars judged; bar lists demanded. -/
namespace E47
open PySem L2
abbrev sMoment : Stmt := top 11
abbrev sIsBar : Stmt := top 12
abbrev sDemB : Stmt := top 13
abbrev sDem2 : Stmt := top 14
abbrev Bar := Int × Option Int
def gV : Option Int → V
  | none => .non
  | some g => .int g
def barL (b : Bar) : List V := [.int b.1, gV b.2]
def okBar (b : Bar) : Prop := -1000 ≤ b.1 ∧ b.1 ≤ 1000 ∧ ∀ g, b.2 = some g → b.1 < g ∧ g ≤ 1000
/-- bars at their places -/
abbrev BT (S : Hp) (as : List Addr) (L : List Bar) : Prop := Paired (fun a b => S a = some (.tup (barL b))) as L
theorem BT.len {S : Hp} {as : List Addr} {L : List Bar} (h : BT S as L) : as.length = L.length := Paired.length h
theorem BT.get {S : Hp} : ∀ {as : List Addr} {L : List Bar} {i : Nat} {a : Addr}, BT S as L → as[i]? = some a → ∃ b, L[i]? = some b ∧ S a = some (.tup (barL b))
  | _, _, i, _, .nil, h => by simp at h
  | _, _, 0, _, .cons x _, h => by cases h; exact ⟨_, rfl, x⟩
  | _, _, i + 1, _, .cons _ r, h => BT.get (i := i) r (by simpa using h)
theorem BT.mono {S S' : Hp} {as : List Addr} {L : List Bar} (e : ∀ b xs, S b = some (.tup xs) → S' b = some (.tup xs)) (r : BT S as L) : BT S' as L := Paired.imp' (fun _ _ h => e _ _ h) r
/-! ### a list or a tuple -/
def SqU (H : Hp) (o : Addr) (xs : List V) : Prop := H o = some (.lst xs) ∨ H o = some (.tup xs)
theorem SqU.ext {H H' : Hp} {o : Addr} {xs : List V} (e : Ext H H') (h : SqU H o xs) : SqU H' o xs := h.elim (fun z => .inl (e _ _ z)) fun z => .inr (e _ _ z)
theorem SqU.sq {K : PySem.W.Frag} {H : Hp} {o : Addr} {xs : List V} (h : SqU H o xs) : SqL K H o xs ∨ SqT K H o xs := h.elim (fun z => .inl (SqL.of z)) fun z => .inr (SqT.of z)
def tiOr (a b : TI) : TI := fun σ H R => a σ H R ∨ b σ H R
theorem pi_or {X : Cx} {tg e : Expr} {a b : TI} (h1 : PI X tg e a) (h2 : PI X tg e b) : PI X tg e (tiOr a b) := ⟨fun pins s σ H R I h => h.elim (h1.run pins s σ H R I) (h2.run pins s σ H R I)⟩
/-- the same object still stands there -/
def Same (H : Hp) (o : Addr) (H' : Hp) : Prop := H' o = H o
theorem Same.ext {H H' : Hp} {o : Addr} {xs : List V} (h : SqU H o xs) (e : Ext H H') : Same H o H' := by
  unfold Same
  rcases h with h | h <;> rw [h] <;> exact e _ _ h
theorem walk_seqL {K : PySem.W.Frag} {H : Hp} {o : Addr} {xs : List V} (h : H o = some (.lst xs)) : Walk (Itl K o) xs.length (Same H o) (YAt xs) :=
  ⟨fun i H' hi q => walk_list.goes i H' hi (SqL.of (q.trans h)), fun H' q => walk_list.stops H' (SqL.of (q.trans h)), fun i H' x H'' hi q y => walk_list.yields i H' x H'' hi (SqL.of (q.trans h)) y⟩
theorem walk_seqT {K : PySem.W.Frag} {H : Hp} {o : Addr} {xs : List V} (h : H o = some (.tup xs)) : Walk (Itt K o) xs.length (Same H o) (YAt xs) :=
  ⟨fun i H' hi q => walk_tup.goes i H' hi (SqT.of (q.trans h)), fun H' q => walk_tup.stops H' (SqT.of (q.trans h)), fun i H' x H'' hi q y => walk_tup.yields i H' x H'' hi (SqT.of (q.trans h)) y⟩
/-- for .. in what slot i names -/
theorem it_seq {K : PySem.W.Frag} {σ : L2.St} {H : Hp} {R : It → Hp → Prop} {i : Nat} {o : Addr} {xs : List V} (hi : σ[i]? = some (some (.ref o))) (q : SqU H o xs) (k : ∀ J : It, Walk J xs.length (Same H o) (YAt xs) → R J H) :
    tiOr (iList K (tVar i)) (iTup K (tVar i)) σ H R := by
  rcases q with q | q
  · exact .inl ⟨_, hi, o, rfl, ⟨_, SqL.of q⟩, k _ (walk_seqL q)⟩
  · exact .inr ⟨_, hi, o, rfl, ⟨_, SqT.of q⟩, k _ (walk_seqT q)⟩
theorem walk_enT {H : Hp} {o : Addr} {xs : List V} (h : H o = some (.tup xs)) : Walk (ItEn o) xs.length (Same H o) (YPair (fun i => some (.int (i : Nat))) (fun i => xs[i]?)) := by
  refine ⟨fun i H' hi q => ⟨xs, xs[i], q.trans h, by simp [hi]⟩, fun H' q => ⟨xs, q.trans h, rfl⟩, fun i H' v H'' _ q y => ?_⟩
  obtain ⟨p, x, h1, h2, h3, h4⟩ := y
  exact ⟨p, .int (i : Nat), x, h1, h2, h3, rfl, h4 xs (q.trans h)⟩
theorem walk_enL {K : PySem.W.Frag} {H : Hp} {o : Addr} {xs : List V} (h : H o = some (.lst xs)) : Walk (Ite K o) xs.length (Same H o) (YPair (fun i => some (.int (i : Nat))) (fun i => xs[i]?)) :=
  ⟨fun i H' hi q => walk_enum.goes i H' hi (SqL.of (q.trans h)), fun H' q => walk_enum.stops H' (SqL.of (q.trans h)), fun i H' x H'' hi q y => walk_enum.yields i H' x H'' hi (SqL.of (q.trans h)) y⟩
/-- for .. in enumerate(what slot i names) -/
theorem en_seq {K : PySem.W.Frag} {σ : L2.St} {H : Hp} {R : It → Hp → Prop} {i : Nat} {o : Addr} {xs : List V} (hi : σ[i]? = some (some (.ref o))) (q : SqU H o xs) (k : ∀ J : It, Walk J xs.length (Same H o) (YPair (fun i => some (.int (i : Nat))) (fun i => xs[i]?)) → R J H) :
    tiOr (iEnum K (tCons (tVar i) tNil)) (iEn (tCons (tVar i) tNil)) σ H R := by
  rcases q with q | q
  · exact .inl ⟨_, hi, o, _, rfl, SqL.of q, k _ (walk_enL q)⟩
  · exact .inr ⟨_, hi, o, _, rfl, q, k _ (walk_enT q)⟩
/-! ### right bars -/
def momV : V → Bool
  | .int i => decide (-1000 ≤ i) && decide (i ≤ 1000)
  | _ => false
theorem momV_true {x : V} : momV x = true ↔ ∃ i, x = .int i ∧ -1000 ≤ i ∧ i ≤ 1000 := by
  cases x <;> simp [momV]
def barE (b : Int) : PyData → Option Bar
  | .none => some (b, none)
  | .int g => if b < g ∧ g ≤ 1000 then some (b, some g) else none
  | _ => none
def bar2 : PyData → PyData → Option Bar
  | .int b, y => if -1000 ≤ b ∧ b ≤ 1000 then barE b y else none
  | _, _ => none
theorem bar2_int (b : Int) (y : PyData) : bar2 (.int b) y = if -1000 ≤ b ∧ b ≤ 1000 then barE b y else none := by cases y <;> rfl
def barPs : List PyData → Option Bar
  | [x, y] => bar2 x y
  | _ => none
def barP : PyData → Option Bar
  | .tuple ds => barPs ds
  | _ => none
def areP (d : PyData) : Bool := match seqOf d with
  | none => false
  | some ds => decide (ds.length ≤ 20) && ds.all fun e => (barP e).isSome
theorem seq_of {H : Hp} {x : V} {d : PyData} {ds : List PyData} (h : PD H x d) (e : seqOf d = some ds) : ∃ a xs, x = .ref a ∧ SqU H a xs ∧ xs.length ≤ 1000 ∧ PDs H xs ds := by
  cases h with
  | lst a b c => cases e; exact ⟨_, _, rfl, .inl a, b, c⟩
  | tup a b c => cases e; exact ⟨_, _, rfl, .inr a, b, c⟩
  | _ => cases e
/-- bars in a list or a tuple -/
def BS (S : Hp) (o : Addr) (L : List Bar) : Prop := ∃ as : List Addr, SqU S o (as.map V.ref) ∧ BT S as L
theorem BS.ext {S S' : Hp} {o : Addr} {L : List Bar} (e : Ext S S') (h : BS S o L) : BS S' o L := by
  obtain ⟨as, h1, h2⟩ := h
  exact ⟨as, h1.ext e, h2.mono fun _ _ z => e _ _ z⟩
def Right (L : List Bar) : Prop := L.length ≤ 20 ∧ ∀ b ∈ L, okBar b
theorem bar_of {H : Hp} {x : V} {d : PyData} {b : Bar} (h : PD H x d) (e : barP d = some b) : okBar b ∧ ∃ a, x = .ref a ∧ H a = some (.tup (barL b)) := by
  cases h with
  | tup ha hl ps =>
    cases ps with
    | nil => cases e
    | cons p0 r =>
      cases r with
      | nil => cases e
      | cons p1 r =>
        cases r with
        | cons p2 r => cases e
        | nil =>
          change bar2 _ _ = some b at e
          cases p0 with
          | int b0 =>
            rw [bar2_int] at e
            by_cases c : -1000 ≤ b0 ∧ b0 ≤ 1000
            · rw [if_pos c] at e
              cases p1 with
              | non => cases e; exact ⟨⟨c.1, c.2, fun g z => nomatch z⟩, _, rfl, ha⟩
              | int g =>
                change (if b0 < g ∧ g ≤ 1000 then some (b0, some g) else none) = some b at e
                by_cases c2 : b0 < g ∧ g ≤ 1000
                · rw [if_pos c2] at e
                  cases e
                  exact ⟨⟨c.1, c.2, fun g' z => by cases z; exact c2⟩, _, rfl, ha⟩
                · rw [if_neg c2] at e
                  cases e
              | _ => cases e
            · rw [if_neg c] at e
              cases e
          | _ => cases e
  | _ => cases e
theorem bars_of {H : Hp} : ∀ {xs : List V} {ds : List PyData}, PDs H xs ds → (ds.all fun e => (barP e).isSome) = true → ∃ (as : List Addr) (L : List Bar), xs = as.map V.ref ∧ BT H as L ∧ ∀ b ∈ L, okBar b
  | _, _, .nil, _ => ⟨[], [], rfl, .nil, fun _ z => nomatch z⟩
  | _, _, .cons (d := d) p r, h => by
    rw [List.all_cons, Bool.and_eq_true] at h
    obtain ⟨b, hb⟩ := Option.isSome_iff_exists.mp h.1
    obtain ⟨ok, a, rfl, ha⟩ := bar_of p hb
    obtain ⟨as, L, rfl, bt, oks⟩ := bars_of r h.2
    refine ⟨a :: as, b :: L, rfl, .cons ha bt, fun c hc => ?_⟩
    rcases List.mem_cons.mp hc with rfl | hc
    · exact ok
    · exact oks c hc
theorem right_of {H : Hp} {x : V} {d : PyData} (h : PD H x d) (e : areP d = true) : ∃ o L, x = .ref o ∧ BS H o L ∧ Right L := by
  unfold areP at e
  cases hs : seqOf d with
  | none => rw [hs] at e; cases e
  | some ds =>
    rw [hs] at e
    simp only [Bool.and_eq_true, decide_eq_true_eq] at e
    obtain ⟨a, xs, rfl, sq, hl, ps⟩ := seq_of h hs
    obtain ⟨as, L, rfl, bt, oks⟩ := bars_of ps e.2
    refine ⟨a, L, rfl, ⟨as, sq, bt⟩, ?_, oks⟩
    have := ps.len
    rw [List.length_map, bt.len] at this
    omega
def spMoment (K : PySem.W.Frag) : Sp := fun vs H Q _ => ∃ x : V, vs = [x] ∧ Th K H 0 x ∧ Q (.bl (momV x)) H
def spIsBar (K : PySem.W.Frag) : Sp := fun vs H Q _ => ∃ (x : V) (d : PyData), vs = [x] ∧ PD H x d ∧ Q (.bl (barP d).isSome) H
def spDemB (NB : Addr) : Sp := fun vs H Q E => ∃ (x : V) (d : PyData), vs = [x] ∧ PD H x d ∧ (areP d = false → ∀ H', Ext H H' → E (.ref NB) none H') ∧ (areP d = true → ∀ H', Ext H H' → Q .non H')
def spDem2 (K : PySem.W.Frag) (NB NN : Addr) : Sp := fun vs H Q E => ∃ (x y e : V) (d1 d2 : PyData), vs = [x, y, e] ∧ PD H x d1 ∧ PD H y d2 ∧ Th K H 0 e ∧ ((areP d1 && areP d2) = false → ∀ H', Ext H H' → E (.ref NB) none H') ∧
  ((areP d1 && areP d2) = true → numV 2000 e = false → ∀ H', Ext H H' → E (.ref NN) none H') ∧ ((areP d1 && areP d2) = true → numV 2000 e = true → ∀ H', Ext H H' → Q .non H')
structure BarC (mg : Str → Option Value) : Prop where
  m20 : ∃ t, mg "MOST_BARS" = some (.int 20 t)
  m1000 : ∃ t, mg "MOST_MOMENT" = some (.int 1000 t)
  m2000 : ∃ t, mg "MOST_APART" = some (.int 2000 t)
theorem len2 {n : Nat} : (!decide (V.int (n : Int) = V.int 2)) = !decide (n = 2) := by
  congr 1
  by_cases h : n = 2
  · subst h; rfl
  · rw [decide_eq_false h, decide_eq_false fun z => h (by injection z with z; omega)]
section
variable {P : Program} {w : World} {K : PySem.W.Frag} {mg : Str → Option Value} {base : Heap}
theorem scMom : FnScope ["thing"] ["thing"] (defScope sMoment) := ⟨rfl, rfl, rfl, by decide +kernel, rfl, by decide +kernel, by decide +kernel⟩
theorem ok_moment {f : Addr} {fd : FuncData} (F : L2.Fun K "is_moment" "is_moment" sMoment f fd) (B : BarC mg) (cI : Cal P w K mg base 1 "is_integer" (spInteger K) []) : FnOk P w K mg base CX0 2 f fd ["thing"] (spMoment K) := by
  obtain ⟨t1, h1⟩ := B.m1000
  refine F.ok scMom (fun vs H Q E h => ?_) (fun cdv A outer s H vs Q E hr h => ?_)
  · obtain ⟨x, rfl, _⟩ := h
    rfl
  · obtain ⟨x, rfl, th, k⟩ := h
    refine ⟨_, pss_one (ps_ret (pe_and (C8.pe_c cI hr (by decide) (by rfl) (pa_cons (pv 0) pa_nil)) (pe_one (pe_chain op_le op_le (pe_un un_neg (pe_glob (v := .int 1000) rfl h1 ⟨_, rfl⟩)) (pv 0) (pe_glob (v := .int 1000) rfl h1 ⟨_, rfl⟩))))), ?_⟩
    refine ⟨_, rfl, _, rfl, th, _, rfl, ?_⟩
    cases x with
    | int i =>
      refine iteT ⟨_, rfl, _, rfl, _, _, rfl, rfl, _, rfl, ?_⟩
      have e : momV (.int i) = (decide (-1000 ≤ i) && decide (i ≤ 1000)) := rfl
      rw [e] at k
      cases h1 : decide (-1000 ≤ i) with
      | false => rw [h1, Bool.false_and] at k; exact iteF k
      | true => rw [h1, Bool.true_and] at k; exact iteT ⟨_, _, rfl, rfl, k⟩
    | _ => exact iteF k
theorem scIsB : FnScope ["thing"] ["thing"] (defScope sIsBar) := ⟨rfl, rfl, rfl, by decide +kernel, rfl, by decide +kernel, by decide +kernel⟩
theorem ok_isBar {f : Addr} {fd : FuncData} (F : L2.Fun K "is_bar" "is_bar" sIsBar f fd) (T : Gb mg) (cM : Cal P w K mg base 2 "is_moment" (spMoment K) []) : FnOk P w K mg base CX0 3 f fd ["thing"] (spIsBar K) := by
  refine F.ok scIsB (fun vs H Q E h => ?_) (fun cdv A outer s H vs Q E hr h => ?_)
  · obtain ⟨x, d, rfl, _⟩ := h
    rfl
  · obtain ⟨x, d, rfl, pd, k⟩ := h
    obtain ⟨t, ty, kt⟩ := td_isT (PD.td (K := K) pd)
    refine ⟨_, pss_cons (ps_if (PW.pt (pw_or (pt_not (pt_val (pe_callB call_isi (by rfl) T.isi (by decide +kernel) (pa_cons (pv 0) (pa_cons (pe_bltn (v := .ty "tuple") (by rfl) T.tup (by decide +kernel) rfl) pa_nil))))) (pw_or (pt_cmpR op_ne (pe_callB call_len_seq (by rfl) T.len PySem.boot_len (pa_cons (pv 0) pa_nil)) pe_int (nomark _)) (pw_or1 (pt_not (pt_val (C8.pe_c cM hr (by decide) (by rfl) (pa_cons (pe_ix ix_tup (pv 0) pe_int (fun _ _ => rfl)) pa_nil)))))))) (pss_one (ps_ret pe_bl)) pss_nil)
      (pss_one (ps_ret (pe_or (pe_cmpR op_isN (pe_ix ix_tup (pv 0) pe_int (fun _ _ => rfl)) pe_non (nomark _)) (pe_one (pe_and (C8.pe_c cM hr (by decide) (by rfl) (pa_cons (pe_ix ix_tup (pv 0) pe_int (fun _ _ => rfl)) pa_nil)) (pe_one (pe_cmpR op_lt (pe_ix ix_tup (pv 0) pe_int (fun _ _ => rfl)) (pe_ix ix_tup (pv 0) pe_int (fun _ _ => rfl)) (nomark _)))))))), ?_⟩
    refine ⟨_, rfl, x, .ty "tuple", t, .type "tuple", _, rfl, .ty _, ty, kt, _, rfl, ?_⟩
    cases pd with
    | @tup a xs ds ha hl ps =>
      refine iteF ⟨_, rfl, a, _, rfl, .inr (SqT.of ha), rfl, _, rfl, ?_⟩
      rw [len2]
      have lp := ps.len
      by_cases l2 : xs.length = 2
      rotate_left
      · rw [decide_eq_false l2]
        have e : (barP (.tuple ds)) = none := by
          match ds, lp with
          | [], _ => rfl
          | [_], _ => rfl
          | [_, _], lp => exact absurd lp l2
          | _ :: _ :: _ :: _, _ => rfl
        rw [e] at k
        exact iteT k
      rw [decide_eq_true l2]
      cases ps with
      | nil => cases l2
      | @cons x0 d0 _ _ p0 r =>
        cases r with
        | nil => cases l2
        | @cons x1 d1 _ _ p1 r =>
          cases r with
          | cons _ _ => simp at l2
          | nil =>
            refine iteF ⟨_, rfl, a, _, _, _, rfl, rfl, SqT.of ha, rfl, x0, rfl, PD.th p0, _, rfl, ?_⟩
            cases hm : momV x0 with
            | false =>
              have e : bar2 d0 d1 = none := by
                cases p0 with
                | int b0 =>
                  rw [bar2_int, if_neg]
                  rintro ⟨h1, h2⟩
                  rw [momV_true.mpr ⟨b0, rfl, h1, h2⟩] at hm
                  cases hm
                | _ => cases p1 <;> rfl
              have k' : Q (.bl (bar2 d0 d1).isSome) H := k
              rw [e] at k'
              exact iteT k'
            | true =>
              obtain ⟨b0, rfl, h1, h2⟩ := momV_true.mp hm
              cases p0
              have k' : Q (.bl (bar2 (.int b0) d1).isSome) H := k
              rw [bar2_int, if_pos (⟨h1, h2⟩ : -1000 ≤ b0 ∧ b0 ≤ 1000)] at k'
              refine iteF ⟨_, rfl, _, _, _, _, rfl, rfl, SqT.of ha, rfl, rfl, _, rfl, ?_⟩
              cases p1 with
              | non => exact iteT k'
              | int g =>
                change Q (.bl (if b0 < g ∧ g ≤ 1000 then some (b0, some g) else none : Option Bar).isSome) H at k'
                refine iteF ⟨_, rfl, _, _, _, _, rfl, rfl, SqT.of ha, rfl, .int g, rfl, Th.int g, _, rfl, ?_⟩
                cases hm2 : momV (.int g) with
                | false =>
                  refine iteF ?_
                  have no : ¬ (b0 < g ∧ g ≤ 1000) := fun ⟨a1, a2⟩ => by
                    rw [momV_true.mpr ⟨g, rfl, by omega, a2⟩] at hm2
                    cases hm2
                  rw [if_neg no] at k'
                  exact k'
                | true =>
                  obtain ⟨_, e, g1, g2⟩ := momV_true.mp hm2
                  cases e
                  refine iteT ⟨_, rfl, _, _, _, _, rfl, rfl, SqT.of ha, rfl, _, rfl, _, _, _, _, rfl, rfl, SqT.of ha, rfl, _, _, rfl, rfl, ?_⟩
                  show Q (.bl (decide (b0 < g))) H
                  by_cases c : b0 < g
                  · rw [decide_eq_true c]
                    rw [if_pos (⟨c, g2⟩ : b0 < g ∧ g ≤ 1000)] at k'
                    exact k'
                  · rw [decide_eq_false c]
                    rw [if_neg (fun z : b0 < g ∧ g ≤ 1000 => c z.1)] at k'
                    exact k'
              | bl b => exact iteF ⟨_, rfl, _, _, _, _, rfl, rfl, SqT.of ha, rfl, _, rfl, Th.bl b, _, rfl, iteF k'⟩
              | str z => exact iteF ⟨_, rfl, _, _, _, _, rfl, rfl, SqT.of ha, rfl, _, rfl, PD.th (.str z), _, rfl, iteF k'⟩
              | lst a1 a2 a3 => exact iteF ⟨_, rfl, _, _, _, _, rfl, rfl, SqT.of ha, rfl, _, rfl, PD.th (.lst a1 a2 a3), _, rfl, iteF k'⟩
              | tup a1 a2 a3 => exact iteF ⟨_, rfl, _, _, _, _, rfl, rfl, SqT.of ha, rfl, _, rfl, PD.th (.tup a1 a2 a3), _, rfl, iteF k'⟩
              | dct0 a1 => exact iteF ⟨_, rfl, _, _, _, _, rfl, rfl, SqT.of ha, rfl, _, rfl, PD.th (.dct0 a1), _, rfl, iteF k'⟩
              | dct1 a1 a2 => exact iteF ⟨_, rfl, _, _, _, _, rfl, rfl, SqT.of ha, rfl, _, rfl, PD.th (.dct1 a1 a2), _, rfl, iteF k'⟩
    | _ => exact iteT k
abbrev demBN : List Str := ["thing", "bar"]
theorem scDemB : FnScope demBN ["thing"] (defScope sDemB) := ⟨rfl, rfl, rfl, by decide +kernel, rfl, by decide +kernel, by decide +kernel⟩
theorem ok_demB {f fI NB : Addr} {fd fdI : FuncData} (F : L2.Fun K "demand_bars" "demand_bars" sDemB f fd) (T : Gb mg) (B : BarC mg) (N : ErrC K mg "NoBars" NB fI) (FI : FnOk P w K mg base CX0 1 fI fdI ["self"] spF0) (bI : Binds K fdI ["self"] []) (cB : Cal P w K mg base 3 "is_bar" (spIsBar K) []) :
    FnOk P w K mg base (L2.CX P w) 4 f fd ["thing"] (spDemB NB) := by
  obtain ⟨t20, h20⟩ := B.m20
  refine F.okX scDemB (fun vs H Q E h => ?_) (fun cdv A outer s H vs Q E hr h => ?_)
  · obtain ⟨x, d, rfl, _⟩ := h
    rfl
  · obtain ⟨x, d, rfl, pd, kE, kQ⟩ := h
    have hr2 : Room 2 _ := hr.mono (by decide)
    refine ⟨_, pss_cons (ps_if (PW.pt (pw_or (pt_not (pt_val (pe_callB call_isiT (by rfl) T.isi (by decide +kernel) (pa_cons (pv 0) (pa_cons (pe_tup (pa_cons (pe_bltn (v := .ty "list") (by rfl) T.list (by decide +kernel) rfl) (pa_cons (pe_bltn (v := .ty "tuple") (by rfl) T.tup (by decide +kernel) rfl) pa_nil))) pa_nil))))) (pw_or1 (pt_cmpR op_gt (pe_callB call_len_seq (by rfl) T.len PySem.boot_len (pa_cons (pv 0) pa_nil)) (pe_glob (v := .int 20) rfl h20 ⟨_, rfl⟩) (nomark _))))) (pss_one (ps_raise_v H K (takes_of rfl rfl rfl rfl) rfl rfl (pe_exv0 N.ex N.iC N.tI FI hr2 bI pass0 (by rfl) N.gC))) pss_nil)
      (pss_one (ps_if (pt_not (pt_val (pe_callB (cr_all rfl) (by rfl) T.all (by decide +kernel) (pa_cons (pe_lc (own := [("bar", 1)]) (g := gName 1) (tt := tYes) rfl scDemB.nd (pi_or (pi_list (pv 0)) (pi_tup (pv 0))) (blkOk_by (N := demBN) (sc := defScope sDemB) (by decide +kernel)) (fun _ _ _ _ _ => (pg_name (i := 1) scDemB.nd rfl (Or.inl rfl))) (fun _ _ _ _ _ => pts_nil) (fun _ _ _ _ _ => (C8.pe_c cB hr (by decide) (by rfl) (pa_cons (pv 1) pa_nil)))) pa_nil)))) (pss_one (ps_raise_v H K (takes_of rfl rfl rfl rfl) rfl rfl (pe_exv0 N.ex N.iC N.tI FI hr2 bI pass0 (by rfl) N.gC))) pss_nil)), ?_⟩
    refine ⟨_, rfl, by show 2 ≤ sizeLine; decide, fun tp ntp => ?_⟩
    have xt := Ext.upd (o := .tup [.ty "list", .ty "tuple"]) ntp
    obtain ⟨t, ty, kt⟩ := kit_lt (K := K) (pd.ext xt)
    refine ⟨_, tp, _, t, [.type "list", .type "tuple"], _, rfl, upd_same, .cons (.ty _) (.cons (.ty _) .nil), ty, kt, _, rfl, ?_⟩
    cases hs : seqOf d with
    | none =>
      refine iteT (raise0 N xt fun H' e => kE ?_ H' e)
      unfold areP
      rw [hs]
    | some ds =>
      obtain ⟨o, xs, rfl, sq, hl, ps⟩ := seq_of pd hs
      have lp := ps.len
      have ar : areP d = (decide (ds.length ≤ 20) && ds.all fun e => (barP e).isSome) := by unfold areP; rw [hs]
      refine iteF ⟨_, rfl, o, _, rfl, (sq.ext xt).sq, _, _, rfl, rfl, _, rfl, ?_⟩
      by_cases l20 : ds.length ≤ 20
      rotate_left
      · rw [decide_eq_true (show ((xs.length : Nat) : Int) > 20 by omega)]
        refine iteT (raise0 N xt fun H' e => kE ?_ H' e)
        rw [ar, decide_eq_false l20, Bool.false_and]
      rw [decide_eq_false (show ¬ (((xs.length : Nat) : Int) > 20) by omega)]
      rw [decide_eq_true l20, Bool.true_and] at ar
      refine iteF ?_
      have sq1 := sq.ext xt
      have ps1 := ps.ext xt
      generalize upd H tp (.tup [.ty "list", .ty "tuple"]) = H1 at *
      refine it_seq rfl sq1 fun J wk => ?_
      intro D nD
      refine lc_it wk (fun j H2 => Ext H1 H2 ∧ H2 D = some (.lst (((ds.take j).map fun e => (barP e).isSome).map V.bl))) ⟨Ext.upd nD, upd_same⟩ (fun j H2 _ z => Same.ext sq1 z.1) ?_ ?_
      · rintro j y H2 H3 hj ⟨e2, hD⟩ ⟨rfl, hy⟩
        obtain ⟨q, hq, pq⟩ := ps1.get hy
        refine ⟨rfl, tyes_in ⟨_, rfl, y, q, rfl, pq.ext e2, _, hD, small1000 (by rw [List.length_map, List.length_map, List.length_take]; omega), ?_⟩⟩
        refine ⟨fun c o' ho' => ?_, ?_⟩
        · rw [upd_ne (ne_of_none ho' nD)]
          exact e2 _ _ ho'
        · rw [upd_same, List.take_succ, hq, List.map_append, List.map_append]
          rfl
      · rintro H2 ⟨e2, hD⟩
        rw [lp, List.take_of_length_le (Nat.le_refl _)] at hD
        refine ⟨D, _, rfl, SqL.of hD, _, rfl, ?_⟩
        have ea : (ds.map fun e => (barP e).isSome).all id = ds.all fun e => (barP e).isSome := by rw [List.all_map]; rfl
        rw [ea, ← ar]
        cases ha : areP d with
        | false => exact iteT (raise0 N (xt.trans e2) fun H' e => kE ha H' e)
        | true => exact iteF (kQ ha _ (xt.trans e2))
theorem scDem2 : FnScope ["one", "other", "e"] ["one", "other", "e"] (defScope sDem2) := ⟨rfl, rfl, rfl, by decide +kernel, rfl, by decide +kernel, by decide +kernel⟩
theorem ok_dem2 {f fI fB NB NN : Addr} {fd fdI fdB : FuncData} (F : L2.Fun K "demand_both" "demand_both" sDem2 f fd) (B : BarC mg) (N : ErrC K mg "NoNumber" NN fI) (FI : FnOk P w K mg base CX0 1 fI fdI ["self"] spF0) (bI : Binds K fdI ["self"] [])
    (FB : FnOk P w K mg base (L2.CX P w) 4 fB fdB ["thing"] (spDemB NB)) (mB : mg "demand_bars" = some (.ref fB)) (kB : PySem.W.keepIn K (.ref fB) = true) (bB : Binds K fdB ["thing"] []) (cN : Cal P w K mg base 2 "is_number" (spNumber K) []) :
    FnOk P w K mg base (L2.CX P w) 5 f fd ["one", "other", "e"] (spDem2 K NB NN) := by
  obtain ⟨t2, h2⟩ := B.m2000
  refine F.okX scDem2 (fun vs H Q E h => ?_) (fun cdv A outer s H vs Q E hr h => ?_)
  · obtain ⟨x, y, e, d1, d2, rfl, _⟩ := h
    rfl
  · obtain ⟨x, y, e, d1, d2, rfl, p1, p2, th, kB', kN, kQ⟩ := h
    have hr2 : Room 2 _ := hr.mono (by decide)
    refine ⟨_, pss_cons (ps_expr (pe_call FB (hr.mono (by decide)) (by rfl) mB kB bB .nil (passes_call (takes_of rfl rfl rfl rfl) (fun _ _ _ _ h => h)) (pa_cons (pv 0) pa_nil)))
      (pss_cons (ps_expr (pe_call FB (hr.mono (by decide)) (by rfl) mB kB bB .nil (passes_call (takes_of rfl rfl rfl rfl) (fun _ _ _ _ h => h)) (pa_cons (pv 1) pa_nil)))
      (pss_one (ps_if (pt_not (pt_val (C8.pe_c cN hr (by decide) (by rfl) (pa_cons (pe_glob (v := .int 2000) rfl h2 ⟨_, rfl⟩) (pa_cons (pv 2) pa_nil))))) (pss_one (ps_raise_v H K (takes_of rfl rfl rfl rfl) rfl rfl (pe_exv0 N.ex N.iC N.tI FI hr2 bI pass0 (by rfl) N.gC))) pss_nil))), ?_⟩
    refine ⟨_, rfl, x, d1, rfl, p1, fun a1 H1 x1 => kB' (by rw [a1, Bool.false_and]) H1 x1, fun a1 H1 x1 => ?_⟩
    refine ⟨_, rfl, y, d2, rfl, p2.ext x1, fun a2 H2 x2 => kB' (by rw [a2, Bool.and_false]) H2 (x1.trans x2), fun a2 H2 x2 => ?_⟩
    have x12 := x1.trans x2
    have a12 : (areP d1 && areP d2) = true := by rw [a1, a2]; rfl
    refine ⟨_, rfl, _, _, rfl, th.ext x12, _, rfl, ?_⟩
    cases hn : numV 2000 e with
    | false => exact iteT (raise0 N x12 fun H' e' => kN a12 hn H' e')
    | true => exact iteF (kQ a12 hn _ x12)
end
end E47

set_option Elab.async false
set_option linter.all false
set_option maxRecDepth 100000
set_option maxHeartbeats 4000000
set_option pp.maxSteps 100
/-! Fitting bars, short bars; the numbers of the long ones; which fit which. -/
namespace E47
open PySem L2
abbrev sFit : Stmt := top 15
abbrev sShort : Stmt := top 16
abbrev sLong : Stmt := top 17
abbrev sFitting : Stmt := top 18
def fitB (x y : Bar) (e : Int) : Bool :=
  if (if x.1 - y.1 < 0 then -(x.1 - y.1) else x.1 - y.1) > e then false else
    match x.2, y.2 with
    | none, none => true
    | some g, some h => decide ((if g - h < 0 then -(g - h) else g - h) ≤ e)
    | _, _ => false
def shortB (x : Bar) (e : Int) : Bool := match x.2 with
  | none => false
  | some g => decide (g - x.1 ≤ 2 * e)
/-- the numbers of the long ones -/
def longN (L : List Bar) (e : Int) : List Int := ((List.range L.length).filter fun i => match L[i]? with | some b => !shortB b e | none => false).map fun i : Nat => (i : Int)
def longIx (L : List Bar) (e : Int) (n : Nat) : List Int := ((List.range n).filter fun i => match L[i]? with | some b => !shortB b e | none => false).map fun i : Nat => (i : Int)
theorem longIx_succ {L : List Bar} {e : Int} {n : Nat} {b : Bar} (h : L[n]? = some b) : longIx L e (n + 1) = longIx L e n ++ (if (!shortB b e) = true then [(n : Int)] else []) := by
  unfold longIx
  rw [List.range_succ, List.filter_append, List.map_append]
  congr 1
  rw [List.filter_cons]
  simp only [h]
  by_cases c : (!shortB b e) = true
  · rw [if_pos c, if_pos c]; rfl
  · rw [if_neg c, if_neg c]; rfl
theorem longIx_len (L : List Bar) (e : Int) (n : Nat) : (longIx L e n).length ≤ n := by
  unfold longIx
  rw [List.length_map]
  exact Nat.le_trans (List.length_filter_le _ _) (by rw [List.length_range]; exact Nat.le_refl _)
theorem mem_longN {L : List Bar} {e : Int} {i : Int} : i ∈ longN L e ↔ ∃ (n : Nat) (b : Bar), i = (n : Int) ∧ L[n]? = some b ∧ shortB b e = false := by
  unfold longN
  rw [List.mem_map]
  constructor
  · rintro ⟨n, hn, rfl⟩
    obtain ⟨h1, h2⟩ := List.mem_filter.mp hn
    cases hb : L[n]? with
    | none => simp only [hb] at h2; cases h2
    | some b =>
      simp only [hb] at h2
      exact ⟨n, b, rfl, hb, by simpa using h2⟩
  · rintro ⟨n, b, rfl, hb, hs⟩
    refine ⟨n, List.mem_filter.mpr ⟨List.mem_range.mpr (List.getElem?_eq_some_iff.mp hb).1, ?_⟩, rfl⟩
    simp only [hb, hs]
    rfl
/-- the numbers of the bars that fit b, among the first n -/
def fitIx (b : Bar) (M : List Bar) (e : Int) (n : Nat) : List Int := ((List.range n).filter fun i => match M[i]? with | some c => fitB b c e | none => false).map fun i : Nat => (i : Int)
theorem fitIx_succ {b : Bar} {M : List Bar} {e : Int} {n : Nat} {c : Bar} (h : M[n]? = some c) : fitIx b M e (n + 1) = fitIx b M e n ++ (if fitB b c e = true then [(n : Int)] else []) := by
  unfold fitIx
  rw [List.range_succ, List.filter_append, List.map_append]
  congr 1
  rw [List.filter_cons]
  simp only [h]
  by_cases q : fitB b c e = true
  · rw [if_pos q, if_pos q]; rfl
  · rw [if_neg q, if_neg q]; rfl
theorem fitIx_len (b : Bar) (M : List Bar) (e : Int) (n : Nat) : (fitIx b M e n).length ≤ n := by
  unfold fitIx
  rw [List.length_map]
  exact Nat.le_trans (List.length_filter_le _ _) (by rw [List.length_range]; exact Nat.le_refl _)
theorem mem_fitIx {b : Bar} {M : List Bar} {e : Int} {n : Nat} {i : Int} : i ∈ fitIx b M e n ↔ ∃ (j : Nat) (c : Bar), i = (j : Int) ∧ j < n ∧ M[j]? = some c ∧ fitB b c e = true := by
  unfold fitIx
  rw [List.mem_map]
  constructor
  · rintro ⟨j, hj, rfl⟩
    obtain ⟨h1, h2⟩ := List.mem_filter.mp hj
    cases hc : M[j]? with
    | none => simp only [hc] at h2; cases h2
    | some c =>
      simp only [hc] at h2
      exact ⟨j, c, rfl, List.mem_range.mp h1, hc, h2⟩
  · rintro ⟨j, c, rfl, hj, hc, hf⟩
    refine ⟨j, List.mem_filter.mpr ⟨List.mem_range.mpr hj, ?_⟩, rfl⟩
    simp only [hc, hf]
/-- the lists of which fit which -/
def FitsAt (H : Hp) (q : Addr) (L M : List Bar) (e : Int) : Prop := ∃ rs : List Addr, H q = some (.lst (rs.map V.ref)) ∧ Paired (fun r b => H r = some (.lst ((fitIx b M e M.length).map V.int))) rs L
theorem FitsAt.ext {H H' : Hp} {q : Addr} {L M : List Bar} {e : Int} (x : Ext H H') (h : FitsAt H q L M e) : FitsAt H' q L M e := let ⟨rs, h1, h2⟩ := h; ⟨rs, x _ _ h1, Paired.imp' (fun _ _ z => x _ _ z) h2⟩
def spFit : Sp := fun vs H Q _ => ∃ (a b : Addr) (x y : Bar) (e : Int), vs = [.ref a, .ref b, .int e] ∧ H a = some (.tup (barL x)) ∧ H b = some (.tup (barL y)) ∧ Q (.bl (fitB x y e)) H
def spShort : Sp := fun vs H Q _ => ∃ (a : Addr) (x : Bar) (e : Int), vs = [.ref a, .int e] ∧ H a = some (.tup (barL x)) ∧ Q (.bl (shortB x e)) H
def spLong : Sp := fun vs H Q _ => ∃ (o : Addr) (L : List Bar) (e : Int), vs = [.ref o, .int e] ∧ BS H o L ∧ L.length ≤ 1000 ∧ ∀ (l : Addr) (H' : Hp), Ext H H' → H' l = some (.lst ((longN L e).map V.int)) → Q (.ref l) H'
def spFitting : Sp := fun vs H Q _ => ∃ (o1 o2 : Addr) (L M : List Bar) (e : Int), vs = [.ref o1, .ref o2, .int e] ∧ BS H o1 L ∧ BS H o2 M ∧ L.length ≤ 1000 ∧ M.length ≤ 1000 ∧ ∀ (q : Addr) (H' : Hp), Ext H H' → FitsAt H' q L M e → Q (.ref q) H'
section
variable {P : Program} {w : World} {K : PySem.W.Frag} {mg : Str → Option Value} {base : Heap}
theorem scFit : FnScope ["bar", "other", "e"] ["bar", "other", "e"] (defScope sFit) := ⟨rfl, rfl, rfl, by decide +kernel, rfl, by decide +kernel, by decide +kernel⟩
theorem ok_fit {f : Addr} {fd : FuncData} (F : L2.Fun K "fit" "fit" sFit f fd) (T : Gb mg) : FnOk P w K mg base CX0 1 f fd ["bar", "other", "e"] spFit := by
  refine F.ok scFit (fun vs H Q E h => ?_) (fun cdv A outer s H vs Q E hr h => ?_)
  · obtain ⟨a, b, x, y, e, rfl, _⟩ := h
    rfl
  · obtain ⟨a, b, x, y, e, rfl, ha, hb, k⟩ := h
    refine ⟨_, pss_cons (ps_if (pt_cmpR op_gt (pe_callB call_abs (by rfl) T.abs (by decide +kernel) (pa_cons (pe_op op_sub (pe_ix ix_tup (pv 0) pe_int (fun _ _ => rfl)) (pe_ix ix_tup (pv 1) pe_int (fun _ _ => rfl))) pa_nil)) (pv 2) (nomark _)) (pss_one (ps_ret pe_bl)) pss_nil)
      (pss_cons (ps_if (PW.pt (pw_or (pt_cmpR op_isN (pe_ix ix_tup (pv 0) pe_int (fun _ _ => rfl)) pe_non (nomark _)) (pw_or1 (pt_cmpR op_isN (pe_ix ix_tup (pv 1) pe_int (fun _ _ => rfl)) pe_non (nomark _))))) (pss_one (ps_ret (pe_and (pe_cmpR op_isN (pe_ix ix_tup (pv 0) pe_int (fun _ _ => rfl)) pe_non (nomark _)) (pe_one (pe_cmpR op_isN (pe_ix ix_tup (pv 1) pe_int (fun _ _ => rfl)) pe_non (nomark _)))))) pss_nil)
      (pss_one (ps_ret (pe_cmpR op_le (pe_callB call_abs (by rfl) T.abs (by decide +kernel) (pa_cons (pe_op op_sub (pe_ix ix_tup (pv 0) pe_int (fun _ _ => rfl)) (pe_ix ix_tup (pv 1) pe_int (fun _ _ => rfl))) pa_nil)) (pv 2) (nomark _))))), ?_⟩
    obtain ⟨b1, b2⟩ := x
    obtain ⟨c1, c2⟩ := y
    refine ⟨_, rfl, _, _, _, _, rfl, rfl, SqT.of ha, rfl, _, rfl, _, _, _, _, rfl, rfl, SqT.of hb, rfl, _, _, rfl, rfl, _, rfl, _, rfl, _, _, rfl, rfl, _, rfl, ?_⟩
    unfold fitB at k
    refine ite2 (fun q => ?_) (fun q => ?_)
    · rw [if_pos (of_decide_eq_true q)] at k
      exact k
    · rw [if_neg (fun z => q (decide_eq_true z))] at k
      cases b2 with
      | none =>
        refine ⟨_, rfl, _, _, _, _, rfl, rfl, SqT.of ha, rfl, rfl, _, rfl, iteT (iteT ?_)⟩
        refine ⟨_, rfl, _, _, _, _, rfl, rfl, SqT.of ha, rfl, rfl, _, rfl, iteT ?_⟩
        cases c2 with
        | none => exact ⟨_, rfl, _, _, _, _, rfl, rfl, SqT.of hb, rfl, rfl, k⟩
        | some h => exact ⟨_, rfl, _, _, _, _, rfl, rfl, SqT.of hb, rfl, rfl, k⟩
      | some g =>
        refine ⟨_, rfl, _, _, _, _, rfl, rfl, SqT.of ha, rfl, rfl, _, rfl, iteF ?_⟩
        cases c2 with
        | none =>
          refine ⟨_, rfl, _, _, _, _, rfl, rfl, SqT.of hb, rfl, rfl, _, rfl, iteT ?_⟩
          exact ⟨_, rfl, _, _, _, _, rfl, rfl, SqT.of ha, rfl, rfl, _, rfl, iteF k⟩
        | some h =>
          refine ⟨_, rfl, _, _, _, _, rfl, rfl, SqT.of hb, rfl, rfl, _, rfl, iteF ?_⟩
          exact ⟨_, rfl, _, _, _, _, rfl, rfl, SqT.of ha, rfl, _, rfl, _, _, _, _, rfl, rfl, SqT.of hb, rfl, _, _, rfl, rfl, _, rfl, _, rfl, _, _, rfl, rfl, k⟩
theorem scShort : FnScope ["bar", "e"] ["bar", "e"] (defScope sShort) := ⟨rfl, rfl, rfl, by decide +kernel, rfl, by decide +kernel, by decide +kernel⟩
theorem ok_short {f : Addr} {fd : FuncData} (F : L2.Fun K "is_short" "is_short" sShort f fd) : FnOk P w K mg base CX0 1 f fd ["bar", "e"] spShort := by
  refine F.ok scShort (fun vs H Q E h => ?_) (fun cdv A outer s H vs Q E hr h => ?_)
  · obtain ⟨a, x, e, rfl, _⟩ := h
    rfl
  · obtain ⟨a, x, e, rfl, ha, k⟩ := h
    refine ⟨_, pss_one (ps_ret (pe_and (pe_cmpR op_notN (pe_ix ix_tup (pv 0) pe_int (fun _ _ => rfl)) pe_non (nomark _)) (pe_one (pe_cmpR op_le (pe_op op_sub (pe_ix ix_tup (pv 0) pe_int (fun _ _ => rfl)) (pe_ix ix_tup (pv 0) pe_int (fun _ _ => rfl))) (pe_op op_mul pe_int (pv 1)) (nomark _))))), ?_⟩
    obtain ⟨b1, b2⟩ := x
    cases b2 with
    | none => exact ⟨_, rfl, _, _, _, _, rfl, rfl, SqT.of ha, rfl, rfl, _, rfl, iteF k⟩
    | some g =>
      refine ⟨_, rfl, _, _, _, _, rfl, rfl, SqT.of ha, rfl, rfl, _, rfl, iteT ?_⟩
      exact ⟨_, rfl, _, _, _, _, rfl, rfl, SqT.of ha, rfl, _, rfl, _, _, _, _, rfl, rfl, SqT.of ha, rfl, _, _, rfl, rfl, _, rfl, _, _, rfl, rfl, .inl ⟨by decide, by decide⟩, _, _, rfl, rfl, k⟩
abbrev longNN : List Str := ["bars", "e", "number", "bar"]
theorem scLong : FnScope longNN ["bars", "e"] (defScope sLong) := ⟨rfl, rfl, rfl, by decide +kernel, rfl, by decide +kernel, by decide +kernel⟩
theorem ok_long {f : Addr} {fd : FuncData} (F : L2.Fun K "long_numbers" "long_numbers" sLong f fd) (T : Gb mg) (cS : Cal P w K mg base 1 "is_short" spShort []) : FnOk P w K mg base CX0 2 f fd ["bars", "e"] spLong := by
  refine F.ok scLong (fun vs H Q E h => ?_) (fun cdv A outer s H vs Q E hr h => ?_)
  · obtain ⟨o, L, e, rfl, _⟩ := h
    rfl
  · obtain ⟨o, L, e, rfl, ⟨as, sq, bt⟩, len, k⟩ := h
    refine ⟨_, pss_one (ps_ret (pe_lc (own := [("number", 2), ("bar", 3)]) (g := gTup K 2 (gCons (gName 2) (gCons (gName 3) gNil))) rfl scLong.nd (pi_or (pi_enum (by rfl) T.enum (pa_cons (pv 0) pa_nil)) (pi_en (by rfl) T.enum (pa_cons (pv 0) pa_nil))) (blkOk_by (N := longNN) (sc := defScope sLong) (by decide +kernel)) (fun _ _ _ _ _ => (pg_tup rfl (pgs_cons (pg_name (i := 2) scLong.nd rfl (Or.inl rfl)) (pgs_cons (pg_name (i := 3) scLong.nd rfl (Or.inl rfl)) pgs_nil)))) (fun _ _ _ _ _ => (pts_one (pt_not (pt_val (C8.pe_c cS hr (by decide) (by rfl) (pa_cons (pv 3) (pa_cons (pv 1) pa_nil))))))) (fun _ _ _ _ _ => (pv 2)))), ?_⟩
    have la := bt.len
    refine en_seq rfl sq fun J wk => ?_
    intro D nD
    refine lc_it wk (fun j H2 => Ext H H2 ∧ H2 D = some (.lst ((longIx L e j).map V.int))) ⟨Ext.upd nD, upd_same⟩ (fun j H2 _ z => Same.ext sq z.1) ?_ ?_
    · rintro j x H2 H3 hj ⟨x2, hD⟩ ⟨t, u, y, rfl, nt, rfl, hu, hy⟩
      cases hu
      obtain ⟨b, hja, rfl⟩ := ref_get hy
      · obtain ⟨q, hq, hb⟩ := bt.get hja
        have lj := (List.getElem?_eq_some_iff.mp hja).1
        have xt := Ext.upd (o := .tup [.int (j : Nat), .ref b]) nt
        have st := longIx_succ (e := e) hq
        have ll := longIx_len L e j
        refine ⟨t, _, rfl, SqT.of upd_same, rfl, _, _, rfl, _, _, rfl, rfl, rfl, ?_⟩
        refine ⟨_, rfl, _, rfl, b, q, e, rfl, xt _ _ (x2 _ _ hb), _, rfl, ?_⟩
        cases hs : shortB q e with
        | true =>
          refine iteF ⟨x2.trans xt, ?_⟩
          rw [st, hs, xt _ _ hD]
          simp
        | false =>
          refine iteT ⟨_, rfl, _, xt _ _ hD, small1000 (by rw [List.length_map]; omega), fun c o' ho' => ?_, ?_⟩
          · rw [upd_ne (ne_of_none ho' nD)]
            exact xt _ _ (x2 _ _ ho')
          · rw [upd_same, st, hs, List.map_append]
            rfl
    · rintro H2 ⟨x2, hD⟩
      rw [List.length_map, la] at hD
      exact k D H2 x2 hD
abbrev fittingN : List Str := ["bars", "others", "e", "bar", "number", "other"]
theorem scFitting : FnScope fittingN ["bars", "others", "e"] (defScope sFitting) := ⟨rfl, rfl, rfl, by decide +kernel, rfl, by decide +kernel, by decide +kernel⟩
theorem ok_fitting {f : Addr} {fd : FuncData} (F : L2.Fun K "fitting" "fitting" sFitting f fd) (T : Gb mg) (cF : Cal P w K mg base 1 "fit" spFit []) : FnOk P w K mg base CX0 2 f fd ["bars", "others", "e"] spFitting := by
  refine F.ok scFitting (fun vs H Q E h => ?_) (fun cdv A outer s H vs Q E hr h => ?_)
  · obtain ⟨o1, o2, L, M, e, rfl, _⟩ := h
    rfl
  · obtain ⟨o1, o2, L, M, e, rfl, ⟨as, sq, bt⟩, ⟨bs, sq2, bt2⟩, lL, lM, k⟩ := h
    refine ⟨_, pss_one (ps_ret (pe_lc (own := [("bar", 3)]) (g := gName 3) (tt := tYes) rfl scFitting.nd (pi_or (pi_list (pv 0)) (pi_tup (pv 0))) (blkOk_by (N := fittingN) (sc := defScope sFitting) (by decide +kernel)) (fun _ _ _ _ _ => (pg_name (i := 3) scFitting.nd rfl (Or.inr rfl))) (fun _ _ _ _ _ => pts_nil) (fun _ _ _ _ _ => (pe_lc (own := [("number", 4), ("other", 5)]) (g := gTup K 2 (gCons (gName 4) (gCons (gName 5) gNil))) (wi := tiOr (iEnum K (tCons (tVar 1) tNil)) (iEn (tCons (tVar 1) tNil))) rfl scFitting.nd (pi_or (pi_enum (by rfl) T.enum (pa_cons (pv 1) pa_nil)) (pi_en (by rfl) T.enum (pa_cons (pv 1) pa_nil))) (blkOk_by (by first | kernel_rfl | rfl)) (fun _ _ _ _ _ => (pg_tup rfl (pgs_cons (pg_name (i := 4) scFitting.nd rfl (Or.inl rfl)) (pgs_cons (pg_name (i := 5) scFitting.nd rfl (Or.inl rfl)) pgs_nil)))) (fun _ _ _ _ _ => (pts_one (pt_val (C8.pe_c cF hr (by decide) (by rfl) (pa_cons (pv 3) (pa_cons (pv 5) (pa_cons (pv 2) pa_nil))))))) (fun _ _ _ _ _ => (pv 4)))))), ?_⟩
    have la := bt.len
    have lb := bt2.len
    refine it_seq rfl sq fun J wk => ?_
    intro D nD
    refine lc_it wk (fun j H2 => Ext H H2 ∧ ∃ rs : List Addr, H2 D = some (.lst (rs.map V.ref)) ∧ Paired (fun r b => r ≠ D ∧ H2 r = some (.lst ((fitIx b M e M.length).map V.int))) rs (L.take j)) ⟨Ext.upd nD, [], upd_same, .nil⟩ (fun j H2 _ z => Same.ext sq z.1) ?_ ?_
    · rintro j x H2 H3 hj ⟨x2, rs, hD, pr⟩ ⟨rfl, hy⟩
      obtain ⟨b, hja, rfl⟩ := ref_get hy
      obtain ⟨q, hq, hb⟩ := bt.get hja
      have lj := (List.getElem?_eq_some_iff.mp hja).1
      have lr : rs.length ≤ j := by
        rw [Paired.length pr, List.length_take]
        omega
      refine ⟨rfl, tyes_in ?_⟩
      refine en_seq rfl (sq2.ext x2) fun J2 wk2 => ?_
      intro D2 nD2
      have nDD : D2 ≠ D := fun z => by rw [z, hD] at nD2; cases nD2
      refine lc_it wk2 (fun i H4 => Ext H3 H4 ∧ H4 D2 = some (.lst ((fitIx q M e i).map V.int))) ⟨Ext.upd nD2, upd_same⟩ (fun i H4 _ z => Same.ext (sq2.ext x2) z.1) ?_ ?_
      · rintro i x H4 H5 hi ⟨x4, hD2⟩ ⟨t, u, y, rfl, nt, rfl, hu, hy2⟩
        cases hu
        obtain ⟨c, hic, rfl⟩ := ref_get hy2
        obtain ⟨p, hp, hc⟩ := bt2.get hic
        have li := (List.getElem?_eq_some_iff.mp hic).1
        have xt := Ext.upd (o := .tup [.int (i : Nat), .ref c]) nt
        have st := fitIx_succ (b := q) (e := e) hp
        have ll := fitIx_len q M e i
        refine ⟨t, _, rfl, SqT.of upd_same, rfl, _, _, rfl, _, _, rfl, rfl, rfl, ?_⟩
        refine ⟨_, rfl, _, rfl, _, rfl, b, c, q, p, e, rfl, xt _ _ (x4 _ _ (x2 _ _ hb)), xt _ _ (x4 _ _ (x2 _ _ hc)), _, rfl, ?_⟩
        cases hs : fitB q p e with
        | false =>
          refine iteF ⟨x4.trans xt, ?_⟩
          rw [st, hs, xt _ _ hD2]
          simp
        | true =>
          refine iteT ⟨_, rfl, _, xt _ _ hD2, small1000 (by rw [List.length_map]; omega), fun c o' ho' => ?_, ?_⟩
          · rw [upd_ne (ne_of_none ho' nD2)]
            exact xt _ _ (x4 _ _ ho')
          · rw [upd_same, st, hs, List.map_append]
            rfl
      · rintro H4 ⟨x4, hD2⟩
        rw [List.length_map, lb] at hD2
        refine ⟨_, x4 _ _ hD, small1000 (by rw [List.length_map]; omega), fun c o' ho' => ?_, rs ++ [D2], ?_, ?_⟩
        · rw [upd_ne (ne_of_none ho' nD)]
          exact x4 _ _ (x2 _ _ ho')
        · rw [upd_same, List.map_append]
          rfl
        · rw [List.take_succ, hq]
          refine Paired.snoc (Paired.imp' (fun r b z => ⟨z.1, by rw [upd_ne z.1]; exact x4 _ _ z.2⟩) pr) ⟨nDD, by rw [upd_ne nDD]; exact hD2⟩
    · rintro H2 ⟨x2, rs, hD, pr⟩
      rw [List.length_map, la, List.take_of_length_le (Nat.le_refl _)] at pr
      exact k D H2 x2 ⟨rs, hD, Paired.imp' (fun _ _ z => z.2) pr⟩
end
end E47

set_option Elab.async false
set_option linter.all false
set_option maxRecDepth 100000
set_option maxHeartbeats 4000000
set_option pp.maxSteps 60
/-! d.pop(k or None, x), d.items() as a value, sorted of it: d from ints to ints. -/
namespace E47
open PySem L2
section
open PySem.Spec PyProof.Rows
variable {X : Cx}
theorem nk_pairs {P : Program} {w : World} : ∀ {es : List DictEntry} {vs : List (Key × Value)}, Pairs (mixKind P w) es vs → Pairs (noneKind P w) es (vs.map fun p => (some p.1, p.2))
  | _, _, .nil => .nil
  | _, _, .cons a b c => .cons a b (nk_pairs c)
theorem nk_of {P : Program} {w : World} {h : Heap} {a : Addr} {vs : List (Key × Value)} (d : h.DictOf (mixKind P w) a vs) : h.DictOf (noneKind P w) a (vs.map fun p => (some p.1, p.2)) := by
  obtain ⟨ob, entries, epoch, at_, exact_, data_, keys_, pairs_, once⟩ := d
  refine ⟨ob, entries, epoch, at_, exact_, data_, fun e he => ?_, nk_pairs pairs_, ?_⟩
  · obtain ⟨k, h1, h2⟩ := keys_ e he
    exact ⟨some k, h1, h2⟩
  · have e : ((vs.map fun p => (some p.1, p.2)).map (·.1)) = (vs.map (·.1)).map some := by
      rw [List.map_map, List.map_map]
      rfl
    rw [e]
    exact List.Pairwise.map some (fun a b h z => h (Option.some.inj z)) once
theorem nk_none_at (vs : List (Key × Value)) : valueAt (vs.map fun p => (some p.1, p.2)) (none : Option Key) = none := by
  have q : (vs.map fun p => ((some p.1 : Option Key), p.2)).find? (fun kv => decide (kv.1 = none)) = none := by
    rw [List.find?_eq_none]
    intro x hx
    obtain ⟨p, _, rfl⟩ := List.mem_map.mp hx
    simp
  show Option.map _ ((vs.map fun p => ((some p.1 : Option Key), p.2)).find? fun kv => decide (kv.1 = none)) = none
  rw [q]
  rfl
/-- d.pop(y, z), y a key or None -/
def rPopN : V → List V → Hp → VK → Prop := fun x xs H Q => ∃ (a : Addr) (kvs : List (Key × V)) (y z : V), x = .ref a ∧ xs = [y, z] ∧ H a = some (.dK kvs) ∧
  ((y = .non ∧ Q z H) ∨ ∃ k, y = kV k ∧ (∀ v, valV kvs k = some v → Q v (upd H a (.dK (dropK kvs k)))) ∧ (valV kvs k = none → Q z H))
theorem mt_popN : MtR X "dict.pop" rPopN := by
  intro pins s σ H x xs v us Q I rx rxs want
  obtain ⟨a, kvs, y, z, rfl, rfl, ha, want⟩ := want
  cases rx
  obtain ⟨u1, u2, rfl, r1, r2⟩ := vals2 rxs
  rcases want with ⟨rfl, q⟩ | ⟨k, rfl, q1, q2⟩
  · obtain rfl : u1 = Value.none := r1
    obtain ⟨_, low, vs, rel, dd⟩ := dk_of I.hok ha
    exact call_meetsIn PySem.F.slot_dict_pop dd.typeIs PySem.F.entry_dict_pop (PySem.F.args_dict_pop_3 _ _ _) (meets_dict_pop_default (noneKind X.prog X.w) a (k := none) rfl low rfl u2) ⟨_, nk_of dd, nk_none_at vs, _, H, I.tok _, r2, q⟩
  · cases l : valV kvs k with
    | some v0 => exact d_pop I ha r1 l (.inr ⟨u2, rfl⟩) fun w' s4 I4 rw' => ⟨v0, _, I4, rw', q1 v0 l⟩
    | none => exact d_popD I ha r1 l fun s4 I4 => ⟨z, H, I4, r2, q2 l⟩
/-- the view d.items() -/
def rItemsK : V → List V → Hp → VK → Prop := fun x xs H Q => ∃ (a : Addr) (kvs : List (Key × V)), x = .ref a ∧ xs = [] ∧ H a = some (.dK kvs) ∧ ∀ p, H p = none → Q (.ref p) (upd H p (DX.itemsO p a))
theorem mt_itemsK : MtR X "dict.items" rItemsK := by
  intro pins s σ H x xs v us Q I rx rxs want
  obtain ⟨a, kvs, rfl, rfl, ha, q⟩ := want
  cases rx
  cases rxs
  obtain ⟨_, low, vs, rel, ob, entries, epoch, at_, exact_, data_, _⟩ := dk_of I.hok ha
  refine DT.callItems (es := entries) (ep := epoch) low ⟨ob, at_, exact_, data_⟩ ?_
  have new : H s.heap.objs.size = none := I.hok.fresh (Nat.le_refl _)
  exact ⟨.ref s.heap.objs.size, upd H s.heap.objs.size (DX.itemsO s.heap.objs.size a), I.laid (t' := s.toks) (fun b u e => Heap.get?_push_of_some _ e) (Nat.le_refl _) (DX.itemsO_ok (Heap.get?_push_size _ rfl)), rfl, q _ new⟩
/-- sorted(d.items()), d from ints to ints: a new list, as long -/
def rSortItK : List V → Hp → VK → Prop := fun vs H Q => ∃ (p a : Addr) (kvs : List (Key × V)), vs = [.ref p] ∧ H p = some (DX.itemsO p a) ∧ H a = some (.dK kvs) ∧ kvs.length ≤ 1000 ∧ (∀ kv ∈ kvs, ∃ i j : Int, kv = (.inl i, .int j)) ∧
  ∀ (l : Addr) (bs : List Addr) (H' : Hp), Ext H H' → H l = none → H' l = some (.lst (bs.map V.ref)) → bs.length = kvs.length → Q (.ref l) H'
theorem pairs_get {P : Program} {w : World} : ∀ {es : List DictEntry} {vs : List (Key × Value)} {j : Nat} {e : DictEntry}, Pairs (mixKind P w) es vs → es[j]? = some e → ∃ kv, vs[j]? = some kv ∧ keyIs kv.1 e.key = true ∧ e.val = kv.2
  | _, _, j, _, .nil, h => by simp at h
  | _, _, 0, _, .cons a b _, h => by cases h; exact ⟨_, rfl, a, b⟩
  | _, _, j + 1, _, .cons _ _ r, h => pairs_get (j := j) r (by simpa using h)
theorem cr_sortItK (hc : X.calm = true) : CallR X (.builtin "sorted") rSortItK := by
  intro pins s σ H xs us Q I r want
  obtain ⟨p, a, kvs, rfl, hp, ha, few, isI, q⟩ := want
  obtain rfl := Vals.ref1 r
  have view : s.heap.IsItemsView p a := (show ObjOk X.prog X.w H s.heap p (DX.itemsO p a) from I.hok p _ hp).1
  obtain ⟨_, low, vs, rel, ob, entries, epoch, at_, exact_, data_, keys_, pairs_, once⟩ := dk_of I.hok ha
  have l1 : kvs.length = vs.length := Paired.length rel
  have l2 : entries.size = vs.length := by rw [← Array.length_toList]; exact pairs_.length
  refine DT.sortedI (es := entries) (ep := epoch) (I.ok.hd hc) view ⟨ob, at_, exact_, data_⟩ (by rw [sizeLine_eq]; omega) fun h' tk as keep big len made => ?_
  have isP : ∀ v ∈ as.map Value.ref, ∃ x y, Srt.IsPair h' v x y := fun v hv => by
    obtain ⟨b, hb, rfl⟩ := List.mem_map.mp hv
    obtain ⟨j, hj⟩ := List.mem_iff_getElem?.mp hb
    obtain ⟨e, he, hg⟩ := made.pairs j b hj
    obtain ⟨kv, hkv, kis, ev⟩ := pairs_get (j := j) pairs_ (by rw [Array.getElem?_toList]; exact he)
    obtain ⟨k0, hk0, rk, rv⟩ : ∃ k0, kvs[j]? = some k0 ∧ k0.1 = kv.1 ∧ RelV k0.2 kv.2 := by
      have lt : j < kvs.length := by rw [l1]; exact (List.getElem?_eq_some_iff.mp hkv).1
      have := L2.paired_get rel (List.getElem?_eq_getElem lt)
      obtain ⟨kv', hkv', r1, r2⟩ := this
      rw [hkv] at hkv'
      cases hkv'
      exact ⟨_, List.getElem?_eq_getElem lt, r1, r2⟩
    obtain ⟨i, m, rfl⟩ := isI k0 (List.mem_of_getElem? hk0)
    have rk' : Sum.inl i = kv.1 := rk
    rw [← rk'] at kis
    obtain ⟨t1, e1⟩ := Value.isInt_shape (k := i) (v := e.key) kis
    obtain ⟨t2, e2⟩ : ∃ t, kv.2 = Value.int m t := rv
    rw [e1, ev, e2] at hg
    exact ⟨i, m, b, _, t1, t2, 0, rfl, hg, rfl, rfl⟩
  have there : (h'.push { cls := .type "list", data := .seq (as.map Value.ref).toArray }).get? h'.objs.size = some (seqObj "list" (as.map Value.ref).toArray 0) := Heap.get?_push_size _ rfl
  have kb : ∀ b o, h'.get? b = some o → b ≠ h'.objs.size ∧ (h'.push { cls := .type "list", data := .seq (as.map Value.ref).toArray }).get? b = some o := fun b o e => ⟨Nat.ne_of_lt (Heap.lt_size e), Heap.get?_push_of_some _ e⟩
  have fit : (as.map Value.ref).length ≤ sizeLine := by rw [List.length_map, sizeLine_eq]; omega
  generalize h'.push { cls := .type "list", data := .seq (as.map Value.ref).toArray } = h2 at there kb ⊢
  refine wpAny_call_entry PyProof.Rows.slot_list_sort ⟨_, there, rfl⟩ PyProof.Rows.entry_list_sort (Srt.list_sort_any (s := { s with heap := h2, toks := tk }) there fit (fun two => Srt.pairs_sortable (s := { s with heap := h2, toks := tk }) (by omega) (fun v hv => ?_) fun o e => ?_) fun out perm => ⟨.none, rfl, ?_⟩) (PyProof.Rows.args_list_sort _)
  · obtain ⟨x, y, ip⟩ := isP v hv
    exact ⟨x, y, ip.keeps fun b o e _ => (kb b o e).2⟩
  · have e' : some o = some (seqObj "list" (as.map Value.ref).toArray 0) := e.symm.trans there
    cases e'
    intro c
    exact absurd (Value.type.inj c) (by decide)
  · have keep2 : ∀ b o, s.heap.get? b = some o → (sortedHeap h2 h'.objs.size (as.map Value.ref) out.toArray).get? b = some o := fun b o e =>
      (PyProof.Rows.sortedHeap_old (kb b o (keep b o e)).1 (Heap.lt_size (kb b o (keep b o e)).2)).trans (kb b o (keep b o e)).2
    obtain ⟨n, at2⟩ := PyProof.Rows.sortedHeap_at (vs := as.map Value.ref) (out := out.toArray) there
    have refs : ∀ u ∈ out, ∃ b, u = Value.ref b := fun u hu => by
      obtain ⟨b, _, rfl⟩ := List.mem_map.mp (perm.mem_iff.mp hu)
      exact ⟨b, rfl⟩
    obtain ⟨bs, rfl⟩ : ∃ bs : List Addr, out = bs.map Value.ref := by
      clear perm keep2 at2
      induction out with
      | nil => exact ⟨[], rfl⟩
      | cons u us ih =>
        obtain ⟨b, rfl⟩ := refs u List.mem_cons_self
        obtain ⟨bs, rfl⟩ := ih fun v hv => refs v (List.mem_cons_of_mem _ hv)
        exact ⟨b :: bs, rfl⟩
    have lb : bs.length = kvs.length := by
      have := perm.length_eq
      rw [List.length_map, List.length_map] at this
      omega
    have new : H h'.objs.size = none := I.hok.fresh (Nat.le_of_lt big)
    have vl : Vals (bs.map V.ref) (bs.map Value.ref) := vals_maps V.ref Value.ref bs fun _ _ => rfl
    refine ⟨.ref h'.objs.size, upd H h'.objs.size (.lst (bs.map V.ref)), I.laid (t' := tk) keep2 (Nat.le_of_lt big) ⟨?_, bs.map Value.ref, n, vl, at2⟩, rfl, q _ bs _ (Ext.upd new) new upd_same lb⟩
    rw [List.length_map, sizeLine_eq]
    omega
end
end E47

set_option Elab.async false
set_option linter.all false
set_option maxRecDepth 100000
set_option maxHeartbeats 4000000
set_option pp.maxSteps 60
/-! Who holds whom: numbers to numbers, two ways. -/
namespace E47
open PySem L2
def fset (f : Int → Option Int) (i j : Int) : Int → Option Int := fun x => if x = i then some j else f x
def fdel (f : Int → Option Int) (i : Int) : Int → Option Int := fun x => if x = i then none else f x
theorem fset_same {f : Int → Option Int} {i j : Int} : fset f i j i = some j := if_pos rfl
theorem fset_ne {f : Int → Option Int} {i j x : Int} (h : x ≠ i) : fset f i j x = f x := if_neg h
theorem fdel_same {f : Int → Option Int} {i : Int} : fdel f i i = none := if_pos rfl
theorem fdel_ne {f : Int → Option Int} {i x : Int} (h : x ≠ i) : fdel f i x = f x := if_neg h
/-- bars hold numbers, numbers are held by bars -/
def Both (t h : Int → Option Int) : Prop := ∀ b m, t b = some m ↔ h m = some b
theorem Both.symm {t h : Int → Option Int} (x : Both t h) : Both h t := fun m b => (x b m).symm
/-- .. but for the number n, which nobody holds yet -/
structure Near (n : Int) (t h : Int → Option Int) : Prop where
  th : ∀ b m, t b = some m → m ≠ n ∧ h m = some b
  ht : ∀ m b, m ≠ n → h m = some b → t b = some m
theorem Near.last {n b0 : Int} {t h : Int → Option Int} (x : Near n t h) (e : t b0 = none) : Both (fset t b0 n) (fset h n b0) := fun b m => by
  by_cases eb : b = b0
  · subst eb
    rw [fset_same]
    constructor
    · intro z
      cases z
      exact fset_same
    · intro z
      by_cases em : m = n
      · rw [em]
      · rw [fset_ne em] at z
        rw [x.ht m b em z] at e
        cases e
  · rw [fset_ne eb]
    constructor
    · intro z
      obtain ⟨h1, h2⟩ := x.th b m z
      rw [fset_ne h1]
      exact h2
    · intro z
      by_cases em : m = n
      · rw [em, fset_same] at z
        exact absurd (Option.some.inj z).symm eb
      · rw [fset_ne em] at z
        exact x.ht m b em z
theorem Near.step {n n' b0 : Int} {t h : Int → Option Int} (x : Near n t h) (e : t b0 = some n') : Near n' (fset t b0 n) (fset h n b0) := by
  have e0 := x.th b0 n' e
  refine ⟨fun b m z => ?_, fun m b hm z => ?_⟩
  · by_cases eb : b = b0
    · subst eb
      rw [fset_same] at z
      cases z
      exact ⟨e0.1.symm, fset_same⟩
    · rw [fset_ne eb] at z
      obtain ⟨h1, h2⟩ := x.th b m z
      refine ⟨fun q => ?_, by rw [fset_ne h1]; exact h2⟩
      rw [q, e0.2] at h2
      exact eb (Option.some.inj h2).symm
  · by_cases em : m = n
    · rw [em, fset_same] at z
      cases z
      rw [em]
      exact fset_same
    · rw [fset_ne em] at z
      have q := x.ht m b em z
      by_cases eb : b = b0
      · rw [eb, e] at q
        exact absurd (Option.some.inj q).symm hm
      · rw [fset_ne eb]
        exact q
/-- the way back from a bar ends -/
def Chain (d : Int → Nat) (c t : Int → Option Int) (D : Nat) : Prop := ∀ n b, c n = some b → d b ≤ D → t b = none ∨ ∃ n' b', t b = some n' ∧ c n' = some b' ∧ d b' < d b
theorem Chain.step {d : Int → Nat} {c t : Int → Option Int} {b0 b' n : Int} (x : Chain d c t (d b0)) (l : d b' < d b0) : Chain d c (fset t b0 n) (d b') := fun m b hb hd => by
  have ne : b ≠ b0 := fun z => by rw [z] at hd; omega
  rw [fset_ne ne]
  exact x m b hb (by omega)
/-- reached from the start -/
def Reach (start : Int) (d : Int → Nat) (c h : Int → Option Int) (b : Int) : Prop := b = start ∨ ∃ n b', h n = some b ∧ c n = some b' ∧ d b' < d b
/-- a search under way -/
structure Way (start : Int) (d : Int → Nat) (c t h : Int → Option Int) : Prop where
  both : Both t h
  free : t start = none
  came : ∀ n b, c n = some b → Reach start d c h b
theorem Way.chain {start : Int} {d : Int → Nat} {c t h : Int → Option Int} (x : Way start d c t h) (D : Nat) : Chain d c t D := fun n b hb _ => by
  rcases x.came n b hb with rfl | ⟨n', b', h1, h2, h3⟩
  · exact .inl x.free
  · exact .inr ⟨n', b', (x.both b n').mpr h1, h2, h3⟩
/-- a bar that holds a number not yet come to is not reached -/
theorem Way.fresh {start : Int} {d : Int → Nat} {c t h : Int → Option Int} {n b : Int} (x : Way start d c t h) (hn : c n = none) (hb : h n = some b) : ¬ Reach start d c h b := by
  rintro (rfl | ⟨n', b', h1, h2, _⟩)
  · have := x.free
    rw [(x.both b n).mpr hb] at this
    cases this
  · have e := (x.both b n').mpr h1
    rw [(x.both b n).mpr hb] at e
    cases e
    rw [hn] at h2
    cases h2
theorem Reach.came {start : Int} {d : Int → Nat} {c h : Int → Option Int} {n b b0 : Int} (hn : c n = none) (x : Reach start d c h b) : Reach start d (fset c n b0) h b := by
  rcases x with e | ⟨n', b', h1, h2, h3⟩
  · exact .inl e
  · refine .inr ⟨n', b', h1, ?_, h3⟩
    rw [fset_ne fun z => by rw [z, hn] at h2; cases h2]
    exact h2
/-- a number is come to whose holder goes on -/
theorem Way.push {start : Int} {d : Int → Nat} {c t h : Int → Option Int} {n b b1 : Int} (x : Way start d c t h) (hn : c n = none) (rb : Reach start d c h b) (hb : h n = some b1) :
    ∃ d', Way start d' (fset c n b) t h ∧ Reach start d' (fset c n b) h b1 ∧ ∀ y, Reach start d c h y → Reach start d' (fset c n b) h y := by
  have no := x.fresh hn hb
  have ne : ∀ y, Reach start d c h y → y ≠ b1 := fun y r z => no (by rw [← z]; exact r)
  let d' : Int → Nat := fun y => if y = b1 then d b + 1 else d y
  have d1 : d' b1 = d b + 1 := if_pos rfl
  have dn : ∀ y, y ≠ b1 → d' y = d y := fun y z => if_neg z
  have mono : ∀ y, Reach start d c h y → Reach start d' (fset c n b) h y := fun y r => by
    have ny := ne y r
    rcases r with e | ⟨n', b', h1, h2, h3⟩
    · exact .inl e
    · refine .inr ⟨n', b', h1, ?_, ?_⟩
      · rw [fset_ne fun z => by rw [z, hn] at h2; cases h2]
        exact h2
      · rw [dn y ny, dn b' (ne b' (x.came n' b' h2))]
        exact h3
  refine ⟨d', ⟨x.both, x.free, fun m y hy => ?_⟩, .inr ⟨n, b, hb, fset_same, ?_⟩, mono⟩
  · by_cases em : m = n
    · rw [em, fset_same] at hy
      cases hy
      exact mono b rb
    · rw [fset_ne em] at hy
      exact mono y (x.came m y hy)
  · rw [d1, dn b (ne b rb)]
    exact Nat.lt_succ_self _
/-- .. whose holder need not: it lets go -/
theorem Way.let_go {start : Int} {d : Int → Nat} {c t h : Int → Option Int} {n b : Int} {t1 : Int → Option Int} (x : Way start d c t h) (hn : c n = none) (rb : Reach start d c h b) (ht : (h n = none ∧ t1 = t) ∨ ∃ y, h n = some y ∧ t1 = fdel t y) :
    Near n t1 h ∧ Chain d (fset c n b) t1 (d b) := by
  have ch : ∀ D, Chain d (fset c n b) t D := by
    intro D m y hy hd
    have ry : Reach start d (fset c n b) h y := by
      by_cases em : m = n
      · rw [em, fset_same] at hy
        cases hy
        exact rb.came hn
      · rw [fset_ne em] at hy
        exact (x.came m y hy).came hn
    rcases ry with rfl | ⟨n', b', h1, h2, h3⟩
    · exact .inl x.free
    · exact .inr ⟨n', b', (x.both y n').mpr h1, h2, h3⟩
  rcases ht with ⟨h0, rfl⟩ | ⟨y, hy, rfl⟩
  · refine ⟨⟨fun b m z => ?_, fun m b _ z => (x.both b m).mpr z⟩, ch _⟩
    have := (x.both b m).mp z
    exact ⟨(fun q => by rw [q, h0] at this; cases this), this⟩
  · have ty := (x.both y n).mpr hy
    refine ⟨⟨fun b m z => ?_, fun m b hm z => ?_⟩, fun m z hz hd => ?_⟩
    · by_cases eb : b = y
      · rw [eb, fdel_same] at z
        cases z
      · rw [fdel_ne eb] at z
        have q := (x.both b m).mp z
        exact ⟨(fun e => by rw [e, hy] at q; exact eb (Option.some.inj q).symm), q⟩
    · have q := (x.both b m).mpr z
      rw [fdel_ne fun e => by rw [e, ty] at q; exact hm (Option.some.inj q).symm]
      exact q
    · by_cases ez : z = y
      · exact .inl (by rw [ez]; exact fdel_same)
      · rw [fdel_ne ez]
        exact ch _ m z hz hd
/-! ### dicts from numbers below m to numbers below n -/
def DI (H : Hp) (a : Addr) (m n : Nat) (f : Int → Option Int) (l : Nat) : Prop := ∃ kvs : List (Key × V), H a = some (.dK kvs) ∧ kvs.length = l ∧ (∀ kv ∈ kvs, ∃ i j : Int, kv = (.inl i, .int j) ∧ (0 ≤ i ∧ i < (m : Int)) ∧ 0 ≤ j ∧ j < (n : Int)) ∧ (kvs.map (·.1)).Nodup ∧ ∀ i : Int, valV kvs (.inl i) = (f i).map V.int
theorem nodup_below : ∀ (m : Nat) (l : List Int), l.Nodup → (∀ i ∈ l, 0 ≤ i ∧ i < (m : Int)) → l.length ≤ m
  | 0, l, _, h => by
    cases l with
    | nil => exact Nat.le_refl 0
    | cons x r =>
      have := h x List.mem_cons_self
      omega
  | m + 1, l, nd, h => by
    have ih := nodup_below m (l.erase (m : Int)) (nd.erase _) fun x hx => by
      have hx' := (List.Nodup.mem_erase_iff nd).mp hx
      have h1 := h x hx'.2
      have h2 := hx'.1
      omega
    rw [List.length_erase] at ih
    split at ih <;> omega
theorem keys_ints {m : Nat} : ∀ {l : List Key}, (∀ x ∈ l, ∃ i : Int, x = .inl i ∧ 0 ≤ i ∧ i < (m : Int)) → ∃ is : List Int, l = is.map Sum.inl ∧ ∀ i ∈ is, 0 ≤ i ∧ i < (m : Int)
  | [], _ => ⟨[], rfl, fun _ z => nomatch z⟩
  | x :: r, h => by
    obtain ⟨i, rfl, h1⟩ := h x List.mem_cons_self
    obtain ⟨is, rfl, h2⟩ := keys_ints (l := r) fun y hy => h y (List.mem_cons_of_mem _ hy)
    refine ⟨i :: is, rfl, fun j hj => ?_⟩
    rcases List.mem_cons.mp hj with rfl | hj
    · exact h1
    · exact h2 j hj
theorem valV_mem {kvs : List (Key × V)} {k : Key} {v : V} (h : valV kvs k = some v) : (k, v) ∈ kvs := by
  unfold valV at h
  obtain ⟨kv, h1, h2⟩ := Option.map_eq_some_iff.mp h
  have m := List.mem_of_find?_eq_some h1
  have e0 := List.find?_some (p := fun kv : Key × V => decide (kv.1 = k)) h1
  have e : kv.1 = k := of_decide_eq_true e0
  obtain ⟨a, b⟩ := kv
  cases e
  cases h2
  exact m
namespace DI
variable {H : Hp} {a : Addr} {m n l : Nat} {f : Int → Option Int}
theorem frame {H' : Hp} (e : H' a = H a) (x : DI H a m n f l) : DI H' a m n f l := let ⟨kvs, h, r⟩ := x; ⟨kvs, e.trans h, r⟩
theorem new : DI (upd H a (.dK [])) a m n (fun _ => none) 0 := ⟨[], upd_same, rfl, (fun _ z => nomatch z), List.nodup_nil, fun _ => rfl⟩
theorem rng (x : DI H a m n f l) {i j : Int} (e : f i = some j) : (0 ≤ i ∧ i < (m : Int)) ∧ 0 ≤ j ∧ j < (n : Int) := by
  obtain ⟨kvs, h1, h2, h3, h4, h5⟩ := x
  have q := h5 i
  rw [e] at q
  obtain ⟨i', j', e', r⟩ := h3 _ (valV_mem q)
  cases e'
  exact r
theorem len (x : DI H a m n f l) : l ≤ m := by
  obtain ⟨kvs, h1, h2, h3, h4, h5⟩ := x
  rw [← h2, ← List.length_map (f := fun kv : Key × V => kv.1)]
  obtain ⟨is, e, b⟩ := keys_ints (m := m) (l := kvs.map fun kv => kv.1) fun k hk => by
    obtain ⟨kv, hkv, rfl⟩ := List.mem_map.mp hk
    obtain ⟨i, j, rfl, r, _⟩ := h3 kv hkv
    exact ⟨i, rfl, r⟩
  rw [e] at h4 ⊢
  rw [List.length_map]
  exact nodup_below m is (List.Pairwise.imp (fun {a b} z (w : a = b) => z (by rw [w])) (List.pairwise_map.mp h4)) b
theorem get (x : DI H a m n f l) (i : Int) : DGet H a (.int i) ((f i).map V.int) := by
  obtain ⟨kvs, h1, h2, h3, h4, h5⟩ := x
  rw [← h5 i]
  exact DGet.k (k := .inl i) h1
theorem put (x : DI H a m n f l) (m1000 : m ≤ 1000) {i j : Int} (hi : 0 ≤ i ∧ i < (m : Int)) (hj : 0 ≤ j ∧ j < (n : Int)) : ∃ kvs' l', DPut H a (.int i) (.int j) (upd H a (.dK kvs')) ∧ DI (upd H a (.dK kvs')) a m n (fset f i j) l' ∧ (f i = none → l' = l + 1) ∧ l ≤ l' := by
  have lm := x.len
  obtain ⟨kvs, h1, h2, h3, h4, h5⟩ := x
  have hl : kvs.length < sizeLine := Nat.lt_of_le_of_lt (show kvs.length ≤ 1000 by omega) (by decide)
  have mem : ∀ kv ∈ putK kvs (.inl i) (.int j), ∃ i j : Int, kv = (.inl i, .int j) ∧ (0 ≤ i ∧ i < (m : Int)) ∧ 0 ≤ j ∧ j < (n : Int) := by
    intro kv hkv
    unfold putK at hkv
    split at hkv
    · obtain ⟨kw, hkw, e⟩ := List.mem_map.mp hkv
      by_cases c : kw.1 = .inl i
      · rw [if_pos c] at e
        exact ⟨i, j, by rw [← e, c], hi, hj⟩
      · rw [if_neg c] at e
        rw [← e]
        exact h3 kw hkw
    · rcases List.mem_append.mp hkv with q | q
      · exact h3 kv q
      · rw [List.mem_singleton.mp q]
        exact ⟨i, j, rfl, hi, hj⟩
  have val : ∀ y : Int, valV (putK kvs (.inl i) (.int j)) (.inl y) = (fset f i j y).map V.int := fun y => by
    rw [valV_put]
    by_cases c : y = i
    · subst c
      rw [if_pos rfl, fset_same]
      rfl
    · rw [if_neg fun z => c (Sum.inl.inj z), fset_ne c]
      exact h5 y
  cases hv : valV kvs (.inl i) with
  | none =>
    refine ⟨_, kvs.length + 1, DPut.k (k := .inl i) h1 hl, ⟨_, upd_same, ?_, mem, nd_putK _ h4 hv, val⟩, fun _ => by rw [h2], by omega⟩
    rw [putK_new _ hv, List.length_append]
    rfl
  | some v =>
    have any : (kvs.any fun kv => decide (kv.1 = .inl i)) = true := by rw [valV_any, hv]; rfl
    have e : putK kvs (.inl i) (.int j) = kvs.map (fun kv => if kv.1 = .inl i then (kv.1, .int j) else kv) := by unfold putK; rw [if_pos any]
    refine ⟨_, kvs.length, DPut.k (k := .inl i) h1 hl, ⟨_, upd_same, by rw [e, List.length_map], mem, ?_, val⟩, fun z => ?_, by omega⟩
    · rw [e, List.map_map]
      have e2 : ((fun kv : Key × V => kv.1) ∘ fun kv => if kv.1 = .inl i then (kv.1, V.int j) else kv) = fun kv : Key × V => kv.1 := by
        funext kv
        show (if kv.1 = .inl i then (kv.1, V.int j) else kv).1 = kv.1
        split <;> rfl
      rw [e2]
      exact h4
    · have q := h5 i
      rw [z, hv] at q
      cases q
theorem drop (x : DI H a m n f l) (i : Int) : ∃ kvs kvs' l', H a = some (.dK kvs) ∧ DI (upd H a (.dK kvs')) a m n (fdel f i) l' ∧ kvs' = dropK kvs (.inl i) ∧ (valV kvs (.inl i) = (f i).map V.int) := by
  obtain ⟨kvs, h1, h2, h3, h4, h5⟩ := x
  refine ⟨kvs, dropK kvs (.inl i), _, h1, ⟨_, upd_same, rfl, fun kv hkv => h3 kv (dropK_mem hkv), nd_dropK h4, fun y => ?_⟩, rfl, h5 i⟩
  by_cases c : y = i
  · subst c
    rw [fdel_same]
    cases hv : valV (dropK kvs (.inl y)) (.inl y) with
    | none => rfl
    | some v =>
      have := valV_mem hv
      have q := (List.mem_filter.mp this).2
      simp at q
  · rw [fdel_ne c, ← h5 y]
    show ((kvs.filter fun kv => decide (kv.1 ≠ .inl i)).find? fun kv => decide (kv.1 = .inl y)).map (·.2) = (kvs.find? fun kv => decide (kv.1 = .inl y)).map (·.2)
    rw [List.find?_filter]
    congr 2
    funext kv
    by_cases q : kv.1 = .inl y
    · have : kv.1 ≠ .inl i := fun z => c (Sum.inl.inj (q.symm.trans z))
      simp [q, this]
      exact c
    · simp [q]
end DI
end E47

set_option Elab.async false
set_option linter.all false
set_option maxRecDepth 100000
set_option maxHeartbeats 4000000
/-! Placing bars, on functions alone: what it comes to. -/
namespace E47
abbrev PF := Int → Option Int
def shiftF (c : PF) : Nat → PF → PF → Int → Option (PF × PF)
  | 0, _, _, _ => none
  | k + 1, t, h, n => match c n with
    | none => none
    | some b => match t b with
      | none => some (fset t b n, fset h n b)
      | some n' => shiftF c k (fset t b n) (fset h n b) n'
def rowF (A : Int → Bool) (h : PF) (b : Int) : List Int → PF → List Int → (PF × List Int) ⊕ (PF × Int)
  | [], c, ws => .inl (c, ws)
  | q :: r, c, ws => match c q with
    | some _ => rowF A h b r c ws
    | none => match h q with
      | none => .inr (fset c q b, q)
      | some y => if A y = true then rowF A h b r (fset c q b) (ws ++ [y]) else .inr (fset c q b, q)
def searchF (F : Int → List Int) (A : Int → Bool) (h : PF) : Nat → PF → List Int → List Int → Option (List Int ⊕ (PF × Int))
  | 0, _, _, _ => none
  | k + 1, c, as, ws => match ws.getLast? with
    | none => some (.inl as)
    | some b => match rowF A h b (F b) c ws.dropLast with
      | .inl (c', ws') => searchF F A h k c' (as ++ [b]) ws'
      | .inr r => some (.inr r)
def letF (t h : PF) (q : Int) : PF := match h q with
  | none => t
  | some y => fdel t y
inductive PlaceR (F : Int → List Int) (A : Int → Bool) (start : Int) (t h : PF) : List Int ⊕ (PF × PF) → Prop
  | lot {k as} : k ≤ 60 → searchF F A h k (fun _ => none) [] [start] = some (.inl as) → PlaceR F A start t h (.inl as)
  | put {k c q j t' h'} : k ≤ 60 → searchF F A h k (fun _ => none) [] [start] = some (.inr (c, q)) → shiftF c j (letF t h q) h q = some (t', h') → PlaceR F A start t h (.inr (t', h'))
inductive AllR (F : Int → List Int) (A : Int → Bool) : List Int → PF → PF → Option (List Int) × PF × PF → Prop
  | nil {t h} : AllR F A [] t h (none, t, h)
  | skip {s r t h R m} : t s = some m → AllR F A r t h R → AllR F A (s :: r) t h R
  | fail {s r t h as} : t s = none → PlaceR F A s t h (.inl as) → AllR F A (s :: r) t h (some as, t, h)
  | step {s r t h t' h' R} : t s = none → PlaceR F A s t h (.inr (t', h')) → AllR F A r t' h' R → AllR F A (s :: r) t h R
/-! ### the way back -/
def Back (start : Int) (d : Int → Nat) (c t : PF) (D : Nat) : Prop := ∀ n b, c n = some b → d b ≤ D → b = start ∨ ∃ n' b', t b = some n' ∧ c n' = some b' ∧ d b' < d b
def Edges (F : Int → List Int) (t : PF) : Prop := ∀ b n, t b = some n → n ∈ F b
theorem Edges.put {F : Int → List Int} {t : PF} {b n : Int} (x : Edges F t) (h : n ∈ F b) : Edges F (fset t b n) := fun b' n' e => by
  by_cases z : b' = b
  · rw [z, fset_same] at e
    cases e
    rw [z]
    exact h
  · rw [fset_ne z] at e
    exact x _ _ e
theorem fset_some {t : PF} {b n x : Int} (h : t x ≠ none) : fset t b n x ≠ none := by
  by_cases z : x = b
  · rw [z, fset_same]
    exact fun q => nomatch q
  · rw [fset_ne z]
    exact h
structure Shifted (F : Int → List Int) (start : Int) (t h t' h' : PF) : Prop where
  both : Both t' h'
  edges : Edges F t'
  covers : t' start ≠ none
  bars : ∀ b, t b ≠ none → t' b ≠ none
  nums : ∀ m, h m ≠ none → h' m ≠ none
theorem shift_ok {F : Int → List Int} {start : Int} {d : Int → Nat} {c : PF} (ec : ∀ n b, c n = some b → n ∈ F b) : ∀ (D : Nat) (t h : PF) (n b0 : Int), d b0 ≤ D → c n = some b0 → Near n t h → Back start d c t (d b0) → t start = none → Edges F t → ∃ k t' h', shiftF c k t h n = some (t', h') ∧ Shifted F start t h t' h' := by
  intro D
  induction D with
  | zero =>
      intro t h n b0 l e near back free ed
      rcases back n b0 e (Nat.le_refl _) with z | ⟨_, _, _, _, lt⟩
      · subst z
        exact ⟨1, _, _, by simp only [shiftF, e, free], near.last free, ed.put (ec _ _ e), by rw [fset_same]; simp, fun b hb => fset_some hb, fun m hm => fset_some hm⟩
      · exact absurd lt (by omega)
  | succ D ih =>
      intro t h n b0 l e near back free ed
      rcases back n b0 e (Nat.le_refl _) with z | ⟨n', b', h1, h2, lt⟩
      · subst z
        exact ⟨1, _, _, by simp only [shiftF, e, free], near.last free, ed.put (ec _ _ e), by rw [fset_same]; simp, fun b hb => fset_some hb, fun m hm => fset_some hm⟩
      · have ns : start ≠ b0 := fun q => by rw [← q, free] at h1; cases h1
        obtain ⟨k, t', h', r, sh⟩ := ih (fset t b0 n) (fset h n b0) n' b' (by omega) h2 (near.step h1) (fun m b hb hd => by
          have ne : b ≠ b0 := fun q => by rw [q] at hd; omega
          rw [fset_ne ne]
          exact back m b hb (by omega)) (by rw [fset_ne ns]; exact free) (ed.put (ec _ _ e))
        exact ⟨k + 1, t', h', by simp only [shiftF, e, h1]; exact r, sh.both, sh.edges, sh.covers, fun b hb => sh.bars b (fset_some hb), fun m hm => sh.nums m (fset_some hm)⟩
/-- a holder that need not lets go -/
theorem back_of {start : Int} {d : Int → Nat} {c t h : PF} {n b : Int} (x : Way start d c t h) (hn : c n = none) (rb : Reach start d c h b) : Near n (letF t h n) h ∧ Back start d (fset c n b) (letF t h n) (d b) := by
  have near : Near n (letF t h n) h ∧ Chain d (fset c n b) (letF t h n) (d b) := by
    refine x.let_go hn rb ?_
    unfold letF
    cases e : h n with
    | none => exact .inl ⟨rfl, rfl⟩
    | some y => exact .inr ⟨y, rfl, rfl⟩
  refine ⟨near.1, fun m y hy hd => ?_⟩
  have ry : Reach start d c h y := by
    by_cases em : m = n
    · rw [em, fset_same] at hy
      cases hy
      exact rb
    · rw [fset_ne em] at hy
      exact x.came m y hy
  rcases id ry with z | ⟨n', b', h1, h2, h3⟩
  · exact .inl z
  · have ty := (x.both y n').mpr h1
    refine .inr ⟨n', b', ?_, by rw [fset_ne fun z => by rw [z, hn] at h2; cases h2]; exact h2, h3⟩
    unfold letF
    cases e : h n with
    | none => exact ty
    | some y0 =>
      show fdel t y0 y = some n'
      rw [fdel_ne fun z => x.fresh hn e (by rw [← z]; exact ry)]
      exact ty
theorem nodup_sub : ∀ {l m : List Int}, l.Nodup → (∀ x ∈ l, x ∈ m) → l.length ≤ m.length
  | [], _, _, _ => Nat.zero_le _
  | x :: l, m, nd, h => by
    have hx := h x List.mem_cons_self
    have nd' := List.nodup_cons.mp nd
    have := nodup_sub (l := l) (m := m.erase x) nd'.2 fun y hy => (List.mem_erase_of_ne (fun z => nd'.1 (by rw [← z]; exact hy))).mpr (h y (List.mem_cons_of_mem _ hy))
    rw [List.length_erase_of_mem hx] at this
    have pos := List.length_pos_of_mem hx
    rw [List.length_cons]
    omega
/-! ### the search -/
/-- zs: who was asked or waits; c: who came to a number -/
structure Hunt (F : Int → List Int) (A : Int → Bool) (start : Int) (t h : PF) (zs ws : List Int) (c : PF) : Prop where
  nd : (zs ++ ws).Nodup
  st : start ∈ zs ++ ws
  ca : ∀ n b, c n = some b → n ∈ F b ∧ ∃ y, h n = some y ∧ y ∈ zs ++ ws
  lg : ∀ b ∈ zs ++ ws, A b = true
  fr : ∀ b ∈ zs ++ ws, b = start ∨ ∃ n, h n = some b ∧ c n ≠ none
def RowOk (F : Int → List Int) (A : Int → Bool) (start : Int) (t h : PF) (zs : List Int) (b : Int) (r : List Int) (c : PF) : (PF × List Int) ⊕ (PF × Int) → Prop
  | .inl (c', ws') => Hunt F A start t h zs ws' c' ∧ (∃ d, Way start d c' t h ∧ Reach start d c' h b ∧ ∀ y ∈ ws', Reach start d c' h y) ∧ (∀ n ∈ r, c' n ≠ none) ∧ ∀ n, c n ≠ none → c' n ≠ none
  | .inr (c', q) => ∃ c1 d, c' = fset c1 q b ∧ c1 q = none ∧ q ∈ F b ∧ Way start d c1 t h ∧ Reach start d c1 h b ∧ (∀ n x, c1 n = some x → n ∈ F x) ∧ ∀ y, h q = some y → A y = false
theorem row_ok {F : Int → List Int} {A : Int → Bool} {start : Int} {t h : PF} {zs : List Int} {b : Int} : ∀ (r ws : List Int) (c : PF), (∀ n ∈ r, n ∈ F b) → Hunt F A start t h zs ws c → (∃ d, Way start d c t h ∧ Reach start d c h b ∧ ∀ y ∈ ws, Reach start d c h y) → RowOk F A start t h zs b r c (rowF A h b r c ws)
  | [], ws, c, _, x, w => ⟨x, w, (fun _ z => nomatch z), fun _ z => z⟩
  | q :: r, ws, c, hr, x, ⟨d, way, rb, rw_⟩ => by
    unfold rowF
    cases hc : c q with
    | some b1 =>
      have := row_ok r ws c (fun n hn => hr n (List.mem_cons_of_mem _ hn)) x ⟨d, way, rb, rw_⟩
      show RowOk F A start t h zs b (q :: r) c (rowF A h b r c ws)
      cases e : rowF A h b r c ws with
      | inl p =>
        rw [e] at this
        obtain ⟨h1, h2, h3, h4⟩ := this
        exact ⟨h1, h2, fun n hn => by
          rcases List.mem_cons.mp hn with z | z
          · rw [z]
            exact h4 q (by rw [hc]; exact fun q => nomatch q)
          · exact h3 n z, h4⟩
      | inr p =>
        rw [e] at this
        exact this
    | none =>
      have qF := hr q List.mem_cons_self
      cases hh : h q with
      | none => exact ⟨c, d, rfl, hc, qF, way, rb, (fun n x' e => (x.ca n x' e).1), fun y e => nomatch (hh.symm.trans e)⟩
      | some y =>
        show RowOk F A start t h zs b (q :: r) c (if A y = true then rowF A h b r (fset c q b) (ws ++ [y]) else .inr (fset c q b, q))
        cases ha : A y with
        | false =>
          rw [if_neg Bool.false_ne_true]
          exact ⟨c, d, rfl, hc, qF, way, rb, (fun n x' e => (x.ca n x' e).1), fun y' e => by rw [hh] at e; cases e; exact ha⟩
        | true =>
          rw [if_pos rfl]
          obtain ⟨d', way', ry, mono⟩ := way.push hc rb hh
          have ny : y ∉ zs ++ ws := fun z => by
            rcases x.fr y z with e | ⟨n, e, cn⟩
            · have := (way.both y q).mpr hh
              rw [e, way.free] at this
              cases this
            · have e1 := (way.both y n).mpr e
              rw [(way.both y q).mpr hh] at e1
              cases e1
              exact cn hc
          have mem : ∀ {u : Int}, u ∈ zs ++ (ws ++ [y]) ↔ u ∈ zs ++ ws ∨ u = y := by
            intro u
            rw [← List.append_assoc, List.mem_append, List.mem_singleton]
          have up : ∀ {n : Int}, c n ≠ none → fset c q b n ≠ none := fun z => fset_some z
          have x' : Hunt F A start t h zs (ws ++ [y]) (fset c q b) := by
            refine ⟨?_, mem.mpr (.inl x.st), fun n b' e => ?_, fun u hu => ?_, fun u hu => ?_⟩
            · rw [← List.append_assoc]
              refine List.nodup_append.mpr ⟨x.nd, (List.pairwise_singleton _ y), fun u hu v hv => ?_⟩
              rw [List.mem_singleton.mp hv]
              exact fun z => ny (by rw [← z]; exact hu)
            · by_cases z : n = q
              · rw [z, fset_same] at e
                cases e
                rw [z]
                exact ⟨qF, y, hh, mem.mpr (.inr rfl)⟩
              · rw [fset_ne z] at e
                obtain ⟨h1, y', h2, h3⟩ := x.ca n b' e
                exact ⟨h1, y', h2, mem.mpr (.inl h3)⟩
            · rcases mem.mp hu with z | z
              · exact x.lg u z
              · rw [z]
                exact ha
            · rcases mem.mp hu with z | z
              · exact (x.fr u z).imp id fun ⟨n, e, cn⟩ => ⟨n, e, up cn⟩
              · exact .inr ⟨q, by rw [z]; exact hh, by rw [fset_same]; exact fun q => nomatch q⟩
          have := row_ok r (ws ++ [y]) (fset c q b) (fun n hn => hr n (List.mem_cons_of_mem _ hn)) x' ⟨d', way', mono b rb, fun u hu => by
            rcases List.mem_append.mp hu with z | z
            · exact mono u (rw_ u z)
            · rw [List.mem_singleton.mp z]
              exact ry⟩
          cases e : rowF A h b r (fset c q b) (ws ++ [y]) with
          | inl p =>
            rw [e] at this
            obtain ⟨h1, h2, h3, h4⟩ := this
            exact ⟨h1, h2, fun n hn => by
              rcases List.mem_cons.mp hn with z | z
              · rw [z]
                exact h4 q (by rw [fset_same]; exact fun q => nomatch q)
              · exact h3 n z, fun n hn => h4 n (up hn)⟩
          | inr p =>
            rw [e] at this
            exact this
/-- a lot that meets fewer than it is many -/
structure Hall (F : Int → List Int) (A : Int → Bool) (as : List Int) : Prop where
  nd : as.Nodup
  lg : ∀ b ∈ as, A b = true
  few : ∃ Y : List Int, (∀ b ∈ as, ∀ n ∈ F b, n ∈ Y) ∧ Y.length < as.length
def SearchOk (F : Int → List Int) (A : Int → Bool) (start : Int) (t h : PF) : List Int ⊕ (PF × Int) → Prop
  | .inl as => Hall F A as
  | .inr (c', q) => ∃ c1 d b, c' = fset c1 q b ∧ c1 q = none ∧ q ∈ F b ∧ Way start d c1 t h ∧ Reach start d c1 h b ∧ (∀ n x, c1 n = some x → n ∈ F x) ∧ ∀ y, h q = some y → A y = false
theorem search_ok {F : Int → List Int} {A : Int → Bool} {start : Int} {t h : PF} {ls : List Int} (long : ∀ b, A b = true → b ∈ ls) (both : Both t h) (free : t start = none) : ∀ (m : Nat) (c : PF) (as ws : List Int), ls.length < as.length + m → Hunt F A start t h as ws c → (∀ b ∈ as, ∀ n ∈ F b, c n ≠ none) →
    (∃ d, Way start d c t h ∧ ∀ y ∈ ws, Reach start d c h y) → ∃ r, searchF F A h m c as ws = some r ∧ SearchOk F A start t h r
  | 0, c, as, ws, l, x, _, _ => by
    have := nodup_sub (List.nodup_append.mp x.nd).1 fun b hb => long b (x.lg b (List.mem_append_left _ hb))
    omega
  | m + 1, c, as, ws, l, x, al, ⟨d, way, rs⟩ => by
    unfold searchF
    cases e : ws.getLast? with
    | none =>
      have ew : ws = [] := List.getLast?_eq_none_iff.mp e
      subst ew
      refine ⟨.inl as, rfl, ?_⟩
      have nd := x.nd
      have st := x.st
      have ca := x.ca
      rw [List.append_nil] at nd st ca
      refine ⟨nd, fun b hb => x.lg b (List.mem_append_left _ hb), ?_⟩
      -- the numbers come to
      refine ⟨((as.erase start).map fun b => (t b).getD 0), fun b hb n hn => ?_, ?_⟩
      · cases hc : c n with
        | none => exact absurd hc (al b hb n hn)
        | some b' =>
          obtain ⟨_, y, hy, ya⟩ := ca n b' hc
          have ty := (both y n).mpr hy
          have ns : y ≠ start := fun z => by rw [z, free] at ty; cases ty
          exact List.mem_map.mpr ⟨y, (List.mem_erase_of_ne ns).mpr ya, by rw [ty]; rfl⟩
      · rw [List.length_map, List.length_erase_of_mem st]
        have := List.length_pos_of_mem st
        omega
    | some b =>
      obtain ⟨W, rfl⟩ : ∃ W, ws = W ++ [b] := ⟨ws.dropLast, by
        have ne : ws ≠ [] := fun z => by rw [z] at e; cases e
        rw [List.getLast?_eq_some_getLast ne] at e
        injection e with e
        rw [← e]
        exact (List.dropLast_concat_getLast ne).symm⟩
      dsimp only
      rw [List.dropLast_concat]
      have pm : (as ++ (W ++ [b])).Perm ((as ++ [b]) ++ W) := by
        rw [List.append_assoc]
        exact List.Perm.append_left as List.perm_append_comm
      have mem : ∀ {u : Int}, u ∈ as ++ (W ++ [b]) ↔ u ∈ (as ++ [b]) ++ W := fun {u} => pm.mem_iff
      have x1 : Hunt F A start t h (as ++ [b]) W c := ⟨pm.nodup_iff.mp x.nd, mem.mp x.st, fun n b' e => let ⟨h1, y, h2, h3⟩ := x.ca n b' e; ⟨h1, y, h2, mem.mp h3⟩, fun u hu => x.lg u (mem.mpr hu), fun u hu => x.fr u (mem.mpr hu)⟩
      have rk := row_ok (F b) W c (fun _ z => z) x1 ⟨d, way, rs b (List.mem_append_right _ (List.mem_singleton.mpr rfl)), fun y hy => rs y (List.mem_append_left _ hy)⟩
      cases er : rowF A h b (F b) c W with
      | inl p =>
        obtain ⟨c', ws'⟩ := p
        rw [er] at rk
        obtain ⟨h1, ⟨d', way', rb', rw'⟩, h3, h4⟩ := rk
        show ∃ r, searchF F A h m c' (as ++ [b]) ws' = some r ∧ SearchOk F A start t h r
        exact search_ok long both free m c' (as ++ [b]) ws' (by rw [List.length_append, List.length_singleton]; omega) h1 (fun u hu n hn => by
          rcases List.mem_append.mp hu with z | z
          · exact h4 n (al u z n hn)
          · rw [List.mem_singleton.mp z] at hn
            exact h3 n hn) ⟨d', way', rw'⟩
      | inr p =>
        obtain ⟨c', q⟩ := p
        rw [er] at rk
        obtain ⟨c1, d1, z⟩ := rk
        exact ⟨.inr (c', q), rfl, c1, d1, b, z⟩
/-- what placing a bar comes to -/
def PlaceOk (F : Int → List Int) (A : Int → Bool) (start : Int) (t h : PF) : List Int ⊕ (PF × PF) → Prop
  | .inl as => Hall F A as
  | .inr (t', h') => Both t' h' ∧ Edges F t' ∧ t' start ≠ none ∧ (∀ b, A b = true → t b ≠ none → t' b ≠ none) ∧ ∀ m, h m ≠ none → h' m ≠ none
theorem place_ok {F : Int → List Int} {A : Int → Bool} {start : Int} {t h : PF} {ls : List Int} (long : ∀ b, A b = true → b ∈ ls) (both : Both t h) (ed : Edges F t) (free : t start = none) (ha : A start = true) (few : ls.length ≤ 59) : ∃ r, PlaceR F A start t h r ∧ PlaceOk F A start t h r := by
  have way : Way start (fun _ => 0) (fun _ => none) t h := ⟨both, free, fun _ _ z => nomatch z⟩
  obtain ⟨r, hr, ok⟩ := search_ok long both free (A := A) (F := F) (ls.length + 1) (fun _ => none) [] [start] (by simp) ⟨List.pairwise_singleton _ _, List.mem_singleton.mpr rfl, (fun _ _ z => nomatch z), fun b hb => by rw [List.mem_singleton.mp hb]; exact ha, fun b hb => .inl (List.mem_singleton.mp hb)⟩ (fun _ z => nomatch z) ⟨_, way, fun y hy => .inl (List.mem_singleton.mp hy)⟩
  · cases r with
    | inl as => exact ⟨_, .lot (by omega) hr, ok⟩
    | inr p =>
      obtain ⟨c', q⟩ := p
      obtain ⟨c1, d, b, rfl, hq, qF, way, rb, ec, na⟩ := ok
      obtain ⟨near, back⟩ := back_of way hq rb
      have ec' : ∀ n x, fset c1 q b n = some x → n ∈ F x := fun n x e => by
        by_cases z : n = q
        · rw [z, fset_same] at e
          cases e
          rw [z]
          exact qF
        · rw [fset_ne z] at e
          exact ec n x e
      have sub : ∀ u v, letF t h q u = some v → t u = some v := fun u v e => by
        unfold letF at e
        cases hh : h q with
        | none => rw [hh] at e; exact e
        | some y =>
          rw [hh] at e
          by_cases z : u = y
          · rw [z] at e
            exact nomatch (fdel_same.symm.trans e)
          · exact (fdel_ne z).symm.trans e
      have free1 : letF t h q start = none := by
        cases e : letF t h q start with
        | none => rfl
        | some v => rw [sub _ _ e] at free; cases free
      obtain ⟨j, t', h', e, sh⟩ := shift_ok ec' (d b) (letF t h q) h q b (Nat.le_refl _) fset_same near back free1 (fun u v e => ed u v (sub u v e))
      refine ⟨_, .put (by omega) hr e, sh.both, sh.edges, sh.covers, fun u hu tu => sh.bars u ?_, sh.nums⟩
      unfold letF
      cases hh : h q with
      | none => exact tu
      | some y =>
        show fdel t y u ≠ none
        rw [fdel_ne fun z => by rw [z, na y hh] at hu; cases hu]
        exact tu
end E47

set_option Elab.async false
set_option linter.all false
set_option maxRecDepth 100000
set_option maxHeartbeats 4000000
set_option pp.maxSteps 100
/-! is_pairing: whom it lets, and that it ends. -/
namespace E47
open PySem L2
theorem inV_ints (p : Int) : ∀ ps : List Int, inV (.int p) (ps.map V.int) = decide (p ∈ ps)
  | [] => by simp [inV]
  | q :: ps => by
    have ih := inV_ints p ps
    unfold inV at ih ⊢
    rw [List.map_cons, List.any_cons, ih]
    by_cases h : q = p
    · subst h; simp [eqV]
    · have h' : ¬ p = q := fun z => h z.symm
      simp [eqV, h, h']
theorem flat_ints : ∀ ls : List Int, (ls.map V.int).all flatV = true
  | [] => rfl
  | x :: r => by rw [List.map_cons, List.all_cons, flat_ints r]; rfl
theorem pd_bar {H : Hp} {a : Addr} {b : Bar} (h : H a = some (.tup (barL b))) (ok : okBar b) : ∃ d, PD H (.ref a) d ∧ barP d = some b := by
  obtain ⟨b1, b2⟩ := b
  obtain ⟨h1, h2, h3⟩ := ok
  have h1' : -1000 ≤ b1 := h1
  have h2' : b1 ≤ 1000 := h2
  cases b2 with
  | none => exact ⟨.tuple [.int b1, .none], .tup h (by show 2 ≤ 1000; decide) (.cons (.int _) (.cons .non .nil)), by show bar2 (.int b1) .none = _; rw [bar2_int, if_pos ⟨h1', h2'⟩]; rfl⟩
  | some g =>
    obtain ⟨g1, g2⟩ := h3 g rfl
    have g1' : b1 < g := g1
    exact ⟨.tuple [.int b1, .int g], .tup h (by show 2 ≤ 1000; decide) (.cons (.int _) (.cons (.int _) .nil)), by show bar2 (.int b1) (.int g) = _; rw [bar2_int, if_pos ⟨h1', h2'⟩]; show (if b1 < g ∧ g ≤ 1000 then some (b1, some g) else none) = _; rw [if_pos ⟨g1', g2⟩]⟩
theorem pds_bars {H : Hp} : ∀ {as : List Addr} {L : List Bar}, BT H as L → (∀ b ∈ L, okBar b) → ∃ ds, PDs H (as.map V.ref) ds ∧ (ds.all fun d => (barP d).isSome) = true
  | [], [], _, _ => ⟨[], .nil, rfl⟩
  | a :: as, b :: L, .cons h r, ok => by
    obtain ⟨d, p, e⟩ := pd_bar h (ok b List.mem_cons_self)
    obtain ⟨ds, ps, es⟩ := pds_bars r fun c hc => ok c (List.mem_cons_of_mem _ hc)
    exact ⟨d :: ds, .cons p ps, by rw [List.all_cons, e, es]; rfl⟩
theorem pd_bars {H : Hp} {o : Addr} {L : List Bar} (h : BS H o L) (r : Right L) : ∃ d, PD H (.ref o) d ∧ areP d = true := by
  obtain ⟨as, sq, bt⟩ := h
  obtain ⟨ds, ps, all⟩ := pds_bars bt r.2
  have l1 := ps.len
  have l2 := bt.len
  have l3 := r.1
  have le : ds.length ≤ 20 := by rw [← l1, List.length_map, l2]; exact l3
  have le2 : (as.map V.ref).length ≤ 1000 := by rw [l1]; omega
  rcases sq with q | q
  · refine ⟨.list ds, .lst q le2 ps, ?_⟩
    unfold areP
    simp only [seqOf, Bool.and_eq_true, decide_eq_true_eq]
    exact ⟨le, all⟩
  · refine ⟨.tuple ds, .tup q le2 ps, ?_⟩
    unfold areP
    simp only [seqOf, Bool.and_eq_true, decide_eq_true_eq]
    exact ⟨le, all⟩
end E47

set_option Elab.async false
set_option linter.all false
set_option maxRecDepth 100000
set_option maxHeartbeats 4000000
/-! Pairings or bans: what there is. -/
namespace E47
open PySem L2
theorem nodup_on {α β : Type} {f : α → β} : ∀ {l : List α}, (∀ x ∈ l, ∀ y ∈ l, f x = f y → x = y) → l.Nodup → (l.map f).Nodup
  | [], _, _ => List.nodup_nil
  | x :: l, inj, nd => by
    have nd' := List.nodup_cons.mp nd
    rw [List.map_cons]
    refine List.nodup_cons.mpr ⟨fun z => ?_, nodup_on (fun u hu v hv => inj u (List.mem_cons_of_mem _ hu) v (List.mem_cons_of_mem _ hv)) nd'.2⟩
    obtain ⟨y, hy, e⟩ := List.mem_map.mp z
    exact nd'.1 (by rw [← inj y (List.mem_cons_of_mem _ hy) x List.mem_cons_self e]; exact hy)
/-- a lot that meets too few cannot be held all -/
theorem Hall.no {F : Int → List Int} {A : Int → Bool} {as : List Int} {t : PF} (x : Hall F A as) (ed : Edges F t) (inj : ∀ b b' n, t b = some n → t b' = some n → b = b') (cov : ∀ b, A b = true → t b ≠ none) : False := by
  obtain ⟨Y, hY, lt⟩ := x.few
  have val : ∀ b ∈ as, ∃ n, t b = some n := fun b hb => by
    cases e : t b with
    | none => exact absurd e (cov b (x.lg b hb))
    | some n => exact ⟨n, rfl⟩
  have nd : (as.map fun b => (t b).getD 0).Nodup := nodup_on (fun b hb c hc e => by
    obtain ⟨n, hn⟩ := val b hb
    obtain ⟨m, hm⟩ := val c hc
    rw [hn, hm] at e
    have e' : n = m := e
    rw [← e'] at hm
    exact inj b c n hn hm) x.nd
  have := nodup_sub nd fun n hn => by
    obtain ⟨b, hb, e⟩ := List.mem_map.mp hn
    obtain ⟨m, hm⟩ := val b hb
    rw [hm] at e
    have e' : m = n := e
    exact hY b hb n (by rw [← e']; exact ed b m hm)
  rw [List.length_map] at this
  omega
theorem Both.inj {t h : PF} (x : Both t h) (b b' n : Int) (h1 : t b = some n) (h2 : t b' = some n) : b = b' := by
  have e1 := (x b n).mp h1
  rw [(x b' n).mp h2] at e1
  exact (Option.some.inj e1).symm
def AllOk (F : Int → List Int) (A : Int → Bool) (ls : List Int) (t h : PF) : Option (List Int) × PF × PF → Prop
  | (some as, _) => Hall F A as
  | (none, t', h') => Both t' h' ∧ Edges F t' ∧ (∀ s ∈ ls, t' s ≠ none) ∧ (∀ b, A b = true → t b ≠ none → t' b ≠ none) ∧ ∀ m, h m ≠ none → h' m ≠ none
theorem placed_ok {F : Int → List Int} {A : Int → Bool} {ls0 : List Int} (long : ∀ b, A b = true → b ∈ ls0) (few : ls0.length ≤ 59) : ∀ (ls : List Int) (t h : PF), (∀ s ∈ ls, A s = true) → Both t h → Edges F t → ∃ R, AllR F A ls t h R ∧ AllOk F A ls t h R
  | [], t, h, _, both, ed => ⟨_, .nil, both, ed, (fun _ z => nomatch z), fun _ _ z => z, fun _ z => z⟩
  | s :: r, t, h, ha, both, ed => by
    have hs := ha s List.mem_cons_self
    have hr : ∀ s ∈ r, A s = true := fun s hs => ha s (List.mem_cons_of_mem _ hs)
    cases e : t s with
    | some m =>
      obtain ⟨R, a, ok⟩ := placed_ok long few r t h hr both ed
      refine ⟨R, .skip e a, ?_⟩
      match R, ok with
      | (some as, _), ok => exact ok
      | (none, t', h'), ⟨h1, h2, h3, h4, h5⟩ => exact ⟨h1, h2, fun u hu => by
          rcases List.mem_cons.mp hu with z | z
          · rw [z]
            exact h4 s hs (by rw [e]; exact fun q => nomatch q)
          · exact h3 u z, h4, h5⟩
    | none =>
      obtain ⟨p, pr, pok⟩ := place_ok long both ed e hs few
      match p, pr, pok with
      | .inl as, pr, pok => exact ⟨_, .fail e pr, pok⟩
      | .inr (t1, h1), pr, ⟨b1, e1, c1, k1, m1⟩ =>
        obtain ⟨R, a, ok⟩ := placed_ok long few r t1 h1 hr b1 e1
        refine ⟨R, .step e pr a, ?_⟩
        match R, ok with
        | (some as, _), ok => exact ok
        | (none, t', h'), ⟨h2, h3, h4, h5, h6⟩ => exact ⟨h2, h3, fun u hu => by
            rcases List.mem_cons.mp hu with z | z
            · rw [z]
              exact h5 s hs c1
            · exact h4 u z, fun b hb tb => h5 b hb (k1 b hb tb), fun m hm => h6 m (m1 m hm)⟩
/-! ### two lists of bars -/
def fitF (L M : List Bar) (e : Int) (b : Int) : List Int := if 0 ≤ b then (match L[b.toNat]? with | some x => fitIx x M e M.length | none => []) else []
def longA (L : List Bar) (e : Int) (b : Int) : Bool := decide (b ∈ longN L e)
theorem fitB_symm (x y : Bar) (e : Int) : fitB x y e = fitB y x e := by
  obtain ⟨a, g⟩ := x
  obtain ⟨b, h⟩ := y
  have sw : ∀ u v : Int, (if u - v < 0 then -(u - v) else u - v) = (if v - u < 0 then -(v - u) else v - u) := fun u v => by
    by_cases h1 : u - v < 0
    · rw [if_pos h1, if_neg (by omega)]
      omega
    · by_cases h2 : v - u < 0
      · rw [if_neg h1, if_pos h2]
        omega
      · rw [if_neg h1, if_neg h2]
        omega
  unfold fitB
  simp only [sw a b]
  cases g with
  | none => cases h <;> rfl
  | some g => cases h with
    | none => rfl
    | some h => simp only [sw g h]
theorem mem_fitF {L M : List Bar} {e b n : Int} : n ∈ fitF L M e b ↔ ∃ (i j : Nat) (x y : Bar), b = (i : Int) ∧ n = (j : Int) ∧ L[i]? = some x ∧ M[j]? = some y ∧ fitB x y e = true := by
  unfold fitF
  constructor
  · intro h
    by_cases hb : 0 ≤ b
    · rw [if_pos hb] at h
      cases hx : L[b.toNat]? with
      | none => rw [hx] at h; exact nomatch h
      | some x =>
        rw [hx] at h
        obtain ⟨j, y, rfl, _, hy, hf⟩ := mem_fitIx.mp h
        exact ⟨b.toNat, j, x, y, by omega, rfl, hx, hy, hf⟩
    · rw [if_neg hb] at h
      exact nomatch h
  · rintro ⟨i, j, x, y, rfl, rfl, hx, hy, hf⟩
    rw [if_pos (Int.natCast_nonneg i)]
    have e1 : ((i : Int)).toNat = i := rfl
    rw [e1, hx]
    exact mem_fitIx.mpr ⟨j, y, rfl, (List.getElem?_eq_some_iff.mp hy).1, hy, hf⟩
theorem fitF_symm {L M : List Bar} {e b n : Int} : n ∈ fitF L M e b ↔ b ∈ fitF M L e n := by
  rw [mem_fitF, mem_fitF]
  constructor
  · rintro ⟨i, j, x, y, h1, h2, h3, h4, h5⟩
    exact ⟨j, i, y, x, h2, h1, h4, h3, by rw [fitB_symm]; exact h5⟩
  · rintro ⟨i, j, x, y, h1, h2, h3, h4, h5⟩
    exact ⟨j, i, y, x, h2, h1, h4, h3, by rw [fitB_symm]; exact h5⟩
theorem longA_iff {L : List Bar} {e b : Int} : longA L e b = true ↔ b ∈ longN L e := decide_eq_true_iff
/-- t, and h the other way round, is a pairing -/
structure Match (L M : List Bar) (e : Int) (t h : PF) : Prop where
  both : Both t h
  edges : Edges (fitF L M e) t
  c1 : ∀ b, longA L e b = true → t b ≠ none
  c2 : ∀ n, longA M e n = true → h n ≠ none
theorem Match.symm {L M : List Bar} {e : Int} {t h : PF} (x : Match L M e t h) : Match M L e h t := ⟨x.both.symm, fun n b z => fitF_symm.mpr (x.edges b n ((x.both b n).mpr z)), x.c2, x.c1⟩
def noF : PF := fun _ => none
inductive PobR (L M : List Bar) (e : Int) : PF ⊕ (Int × List Int) → Prop
  | lot0 {as t h} : AllR (fitF L M e) (longA L e) (longN L e) noF noF (some as, t, h) → PobR L M e (.inr (0, as))
  | lot1 {as t h t' h'} : AllR (fitF L M e) (longA L e) (longN L e) noF noF (none, t, h) → AllR (fitF M L e) (longA M e) (longN M e) h t (some as, h', t') → PobR L M e (.inr (1, as))
  | pairs {t h t' h'} : AllR (fitF L M e) (longA L e) (longN L e) noF noF (none, t, h) → AllR (fitF M L e) (longA M e) (longN M e) h t (none, h', t') → PobR L M e (.inl t')
def PobOk (L M : List Bar) (e : Int) : PF ⊕ (Int × List Int) → Prop
  | .inl t => ∃ h, Match L M e t h
  | .inr (s, as) => (s = 0 ∧ Hall (fitF L M e) (longA L e) as) ∨ (s = 1 ∧ Hall (fitF M L e) (longA M e) as)
theorem longN_len (L : List Bar) (e : Int) : (longN L e).length ≤ L.length := by
  unfold longN
  rw [List.length_map]
  exact Nat.le_trans (List.length_filter_le _ _) (Nat.le_of_eq List.length_range)
theorem pob_ok (L M : List Bar) (e : Int) (lL : L.length ≤ 20) (lM : M.length ≤ 20) : ∃ r, PobR L M e r ∧ PobOk L M e r := by
  obtain ⟨R, a, ok⟩ := placed_ok (F := fitF L M e) (A := longA L e) (ls0 := longN L e) (fun b hb => longA_iff.mp hb) (by have := longN_len L e; omega) (longN L e) noF noF (fun s hs => longA_iff.mpr hs) (fun b m => ⟨fun z => (nomatch z), fun z => (nomatch z)⟩) (fun _ _ z => nomatch z)
  match R, a, ok with
  | (some as, t, h), a, ok => exact ⟨_, .lot0 a, .inl ⟨rfl, ok⟩⟩
  | (none, t, h), a, ⟨b1, e1, c1, _, _⟩ =>
    have e2 : Edges (fitF M L e) h := fun n b z => fitF_symm.mpr (e1 b n ((b1 b n).mpr z))
    obtain ⟨R, a2, ok⟩ := placed_ok (F := fitF M L e) (A := longA M e) (ls0 := longN M e) (fun b hb => longA_iff.mp hb) (by have := longN_len M e; omega) (longN M e) h t (fun s hs => longA_iff.mpr hs) b1.symm e2
    match R, a2, ok with
    | (some as, h', t'), a2, ok => exact ⟨_, .lot1 a a2, .inr ⟨rfl, ok⟩⟩
    | (none, h', t'), a2, ⟨b3, e3, c3, _, k3⟩ =>
      exact ⟨_, .pairs a a2, h', b3.symm, fun b n z => fitF_symm.mpr (e3 n b ((b3 n b).mpr z)), fun b hb => k3 b (c1 b (longA_iff.mp hb)), fun n hn => c3 n (longA_iff.mp hn)⟩
/-! ### in the words of the judges -/
def sortL (as : List Int) : List Int := as.mergeSort (fun a b => decide (a ≤ b))
theorem sortL_perm (as : List Int) : (sortL as).Perm as := List.mergeSort_perm as _
theorem sortL_le (as : List Int) : (sortL as).Pairwise (· ≤ ·) := by
  have := List.pairwise_mergeSort (le := fun a b : Int => decide (a ≤ b)) (fun a b c h1 h2 => by simp only [decide_eq_true_eq] at *; omega) (fun a b => by simp only [Bool.or_eq_true, decide_eq_true_eq]; omega) as
  exact this.imp fun h => of_decide_eq_true h
theorem asc_of : ∀ {l : List Int}, l.Pairwise (· ≤ ·) → l.Nodup → l.Pairwise (· < ·)
  | [], _, _ => .nil
  | x :: l, h, nd => by
    obtain ⟨h1, h2⟩ := List.pairwise_cons.mp h
    obtain ⟨n1, n2⟩ := List.nodup_cons.mp nd
    refine List.pairwise_cons.mpr ⟨fun y hy => ?_, asc_of h2 n2⟩
    have := h1 y hy
    have ne : x ≠ y := fun z => n1 (by rw [z]; exact hy)
    omega
theorem sortL_asc {as : List Int} (nd : as.Nodup) : (sortL as).Pairwise (· < ·) := asc_of (sortL_le as) ((sortL_perm as).nodup_iff.mpr nd)
/-- ascending lists of the same numbers -/
theorem asc_ext : ∀ {l m : List Int}, l.Pairwise (· < ·) → m.Pairwise (· < ·) → (∀ x, x ∈ l ↔ x ∈ m) → l = m
  | [], [], _, _, _ => rfl
  | [], y :: m, _, _, h => nomatch (h y).mpr List.mem_cons_self
  | x :: l, [], _, _, h => nomatch (h x).mp List.mem_cons_self
  | x :: l, y :: m, hl, hm, h => by
    obtain ⟨l1, l2⟩ := List.pairwise_cons.mp hl
    obtain ⟨m1, m2⟩ := List.pairwise_cons.mp hm
    have e : x = y := by
      rcases List.mem_cons.mp ((h x).mp List.mem_cons_self) with z | z
      · exact z
      · rcases List.mem_cons.mp ((h y).mpr List.mem_cons_self) with w | w
        · exact w.symm
        · have a1 := m1 x z
          have a2 := l1 y w
          omega
    subst e
    rw [asc_ext l2 m2 fun u => ?_]
    constructor
    · intro hu
      rcases List.mem_cons.mp ((h u).mp (List.mem_cons_of_mem _ hu)) with z | z
      · have := l1 u hu
        omega
      · exact z
    · intro hu
      rcases List.mem_cons.mp ((h u).mpr (List.mem_cons_of_mem _ hu)) with z | z
      · have := m1 u hu
        omega
      · exact z
/-- the pairs of t, by their firsts -/
def psOf (n : Nat) (t : PF) : List (Int × Int) := (List.range n).filterMap fun i : Nat => (t (i : Int)).map fun m => ((i : Int), m)
theorem mem_psOf {n : Nat} {t : PF} {p : Int × Int} : p ∈ psOf n t ↔ (0 ≤ p.1 ∧ p.1 < (n : Int)) ∧ t p.1 = some p.2 := by
  obtain ⟨a, m⟩ := p
  unfold psOf
  rw [List.mem_filterMap]
  constructor
  · rintro ⟨i, hi, e⟩
    have := List.mem_range.mp hi
    cases ht : t (i : Int) with
    | none => rw [ht] at e; cases e
    | some m' =>
      rw [ht] at e
      cases e
      exact ⟨⟨by omega, by show (i : Int) < n; omega⟩, ht⟩
  · rintro ⟨⟨h1, h2⟩, h3⟩
    have h1' : 0 ≤ a := h1
    have h2' : a < (n : Int) := h2
    have h3' : t a = some m := h3
    refine ⟨a.toNat, List.mem_range.mpr (by omega), ?_⟩
    have e1 : ((a.toNat : Nat) : Int) = a := by omega
    rw [e1, h3']
    rfl
theorem psOf_asc (n : Nat) (t : PF) : ((psOf n t).map (·.1)).Pairwise (· < ·) := by
  unfold psOf
  rw [List.pairwise_map, List.pairwise_filterMap]
  refine List.Pairwise.imp ?_ List.pairwise_lt_range
  intro i j lt p hp q hq
  cases hi : t (i : Int) with
  | none => rw [hi] at hp; cases hp
  | some a =>
    cases hj : t (j : Int) with
    | none => rw [hj] at hq; cases hq
    | some b =>
      rw [hi] at hp
      rw [hj] at hq
      cases hp
      cases hq
      show (i : Int) < (j : Int)
      omega
end E47

set_option Elab.async false
set_option linter.all false
set_option maxRecDepth 100000
set_option maxHeartbeats 4000000
/-! Whether there is a pairing, as the law finds out. -/
namespace E47
open PySem L2
/-! ### all ways tried -/
def PEx (M : List Bar) (e : Int) : List Bar → List Int → Prop
  | [], used => ∀ (j : Nat) (y : Bar), M[j]? = some y → (j : Int) ∈ used ∨ shortB y e = true
  | x :: r, used => (shortB x e = true ∧ PEx M e r used) ∨ ∃ (j : Nat) (y : Bar), M[j]? = some y ∧ (j : Int) ∉ used ∧ fitB x y e = true ∧ PEx M e r (used ++ [(j : Int)])
open Classical in
noncomputable def inv (t : PF) : PF := fun n => if h : ∃ b, t b = some n then some h.choose else none
theorem inv_some {t : PF} {n b : Int} (h : inv t n = some b) : t b = some n := by
  unfold inv at h
  by_cases z : ∃ b, t b = some n
  · rw [dif_pos z] at h
    rw [← Option.some.inj h]
    exact z.choose_spec
  · rw [dif_neg z] at h
    cases h
theorem inv_of {t : PF} {n b : Int} (h : t b = some n) : ∃ b', inv t n = some b' ∧ t b' = some n := by
  have z : ∃ b, t b = some n := ⟨b, h⟩
  exact ⟨z.choose, by unfold inv; rw [dif_pos z], z.choose_spec⟩
theorem inv_both {t : PF} (inj : ∀ b b' n, t b = some n → t b' = some n → b = b') : Both t (inv t) := fun b n => ⟨fun h => by
  obtain ⟨b', h1, h2⟩ := inv_of h
  rw [h1, inj b' b n h2 h], inv_some⟩
structure Part (L M : List Bar) (e : Int) (k : Nat) (used : List Int) (t : PF) : Prop where
  edges : Edges (fitF L M e) t
  low : ∀ b n, t b = some n → (k : Int) ≤ b ∧ n ∉ used
  inj : ∀ b b' n, t b = some n → t b' = some n → b = b'
  c1 : ∀ (i : Nat) (x : Bar), k ≤ i → L[i]? = some x → shortB x e = false → t (i : Int) ≠ none
  c2 : ∀ (j : Nat) (y : Bar), M[j]? = some y → shortB y e = false → (j : Int) ∈ used ∨ ∃ b, t b = some (j : Int)
theorem pex_part {L M : List Bar} {e : Int} : ∀ (r : List Bar) (k : Nat) (used : List Int), L.drop k = r → PEx M e r used → ∃ t, Part L M e k used t
  | [], k, used, hr, h => by
    have lk : L.length ≤ k := List.drop_eq_nil_iff.mp hr
    refine ⟨noF, (fun _ _ z => nomatch z), (fun _ _ z => nomatch z), (fun _ _ _ z => nomatch z), fun i x hi hx => ?_, fun j y hy hs => ?_⟩
    · have := (List.getElem?_eq_some_iff.mp hx).1
      omega
    · rcases h j y hy with z | z
      · exact .inl z
      · rw [z] at hs
        cases hs
  | x :: r, k, used, hr, h => by
    have hk : L[k]? = some x := by
      have := congrArg (fun l => l[0]?) hr
      simpa using this
    have hr' : L.drop (k + 1) = r := by
      have := congrArg List.tail hr
      simpa using this
    rcases h with ⟨sx, p⟩ | ⟨j, y, hy, nu, ft, p⟩
    · obtain ⟨t, pt⟩ := pex_part r (k + 1) used hr' p
      refine ⟨t, pt.edges, fun b n z => ?_, pt.inj, fun i u hi hu hs => ?_, pt.c2⟩
      · have := pt.low b n z
        exact ⟨by omega, this.2⟩
      · by_cases e' : i = k
        · rw [e', hk] at hu
          cases hu
          rw [sx] at hs
          cases hs
        · exact pt.c1 i u (by omega) hu hs
    · obtain ⟨t, pt⟩ := pex_part r (k + 1) (used ++ [(j : Int)]) hr' p
      have nk : ∀ b n, t b = some n → b ≠ (k : Int) := fun b n z e' => by
        have := (pt.low b n z).1
        omega
      have nj : ∀ b, t b ≠ some (j : Int) := fun b z => (pt.low b _ z).2 (List.mem_append_right _ (List.mem_singleton.mpr rfl))
      refine ⟨fset t k j, pt.edges.put (mem_fitF.mpr ⟨k, j, x, y, rfl, rfl, hk, hy, ft⟩), fun b n z => ?_, fun b b' n z z' => ?_, fun i u hi hu hs => ?_, fun j' y' hy' hs => ?_⟩
      · by_cases eb : b = (k : Int)
        · rw [eb, fset_same] at z
          cases z
          exact ⟨by omega, nu⟩
        · rw [fset_ne eb] at z
          have := pt.low b n z
          exact ⟨by omega, fun q => this.2 (List.mem_append_left _ q)⟩
      · by_cases eb : b = (k : Int)
        · rw [eb, fset_same] at z
          cases z
          by_cases eb' : b' = (k : Int)
          · rw [eb, eb']
          · rw [fset_ne eb'] at z'
            exact absurd z' (nj b')
        · rw [fset_ne eb] at z
          by_cases eb' : b' = (k : Int)
          · rw [eb', fset_same] at z'
            cases z'
            exact absurd z (nj b)
          · rw [fset_ne eb'] at z'
            exact pt.inj b b' n z z'
      · by_cases e' : i = k
        · rw [e', fset_same]
          simp
        · rw [fset_ne (by omega)]
          exact pt.c1 i u (by omega) hu hs
      · rcases pt.c2 j' y' hy' hs with z | ⟨b, z⟩
        · rcases List.mem_append.mp z with z | z
          · exact .inl z
          · exact .inr ⟨k, by rw [fset_same, List.mem_singleton.mp z]⟩
        · exact .inr ⟨b, by rw [fset_ne (nk b _ z)]; exact z⟩
theorem part_pex {L M : List Bar} {e : Int} {t h : PF} (m : Match L M e t h) : ∀ (r : List Bar) (k : Nat) (used : List Int), L.drop k = r → k + r.length = L.length → (∀ j : Int, j ∈ used ↔ ∃ i : Nat, i < k ∧ t (i : Int) = some j) → PEx M e r used
  | [], k, used, hr, hl, hu => by
    intro j y hy
    cases hs : shortB y e with
    | true => exact .inr rfl
    | false =>
      refine .inl ((hu _).mpr ?_)
      cases hh : h (j : Int) with
      | none => exact absurd hh (m.c2 _ (longA_iff.mpr (mem_longN.mpr ⟨j, y, rfl, hy, hs⟩)))
      | some b =>
        have tb := (m.both b j).mpr hh
        obtain ⟨i, _, u, _, rfl, _, hu', _⟩ := mem_fitF.mp (m.edges _ _ tb)
        have := (List.getElem?_eq_some_iff.mp hu').1
        simp only [List.length_nil] at hl
        exact ⟨i, by omega, tb⟩
  | x :: r, k, used, hr, hl, hu => by
    have hk : L[k]? = some x := by
      have := congrArg (fun l => l[0]?) hr
      simpa using this
    have hr' : L.drop (k + 1) = r := by
      have := congrArg List.tail hr
      simpa using this
    rw [List.length_cons] at hl
    cases ht : t (k : Int) with
    | none =>
      have sx : shortB x e = true := by
        cases hs : shortB x e with
        | true => rfl
        | false => exact absurd ht (m.c1 _ (longA_iff.mpr (mem_longN.mpr ⟨k, x, rfl, hk, hs⟩)))
      refine .inl ⟨sx, part_pex m r (k + 1) used hr' (by omega) fun j => ?_⟩
      rw [hu]
      constructor
      · rintro ⟨i, hi, z⟩
        exact ⟨i, by omega, z⟩
      · rintro ⟨i, hi, z⟩
        refine ⟨i, ?_, z⟩
        have : i ≠ k := fun q => by rw [q, ht] at z; cases z
        omega
    | some n =>
      obtain ⟨i, j, u, y, e1, rfl, hu', hy, ft⟩ := mem_fitF.mp (m.edges _ _ ht)
      have : i = k := by omega
      subst this
      rw [hk] at hu'
      cases hu'
      refine .inr ⟨j, y, hy, fun z => ?_, ft, part_pex m r (i + 1) (used ++ [(j : Int)]) hr' (by omega) fun j' => ?_⟩
      · obtain ⟨i', hi', z⟩ := (hu _).mp z
        have := m.both.inj _ _ _ z ht
        omega
      · rw [List.mem_append, hu, List.mem_singleton]
        constructor
        · rintro (⟨i', hi', z⟩ | z)
          · exact ⟨i', by omega, z⟩
          · exact ⟨i, by omega, by rw [z]; exact ht⟩
        · rintro ⟨i', hi', z⟩
          by_cases q : i' = i
          · rw [q, ht] at z
            exact .inr (Option.some.inj z).symm
          · exact .inl ⟨i', by omega, z⟩
theorem pex_iff {L M : List Bar} {e : Int} : PEx M e L [] ↔ ∃ t h, Match L M e t h := by
  constructor
  · intro p
    obtain ⟨t, pt⟩ := pex_part L 0 [] rfl p
    refine ⟨t, inv t, inv_both pt.inj, pt.edges, fun b hb => ?_, fun n hn => ?_⟩
    · obtain ⟨i, x, rfl, hx, hs⟩ := mem_longN.mp (longA_iff.mp hb)
      exact pt.c1 i x (Nat.zero_le _) hx hs
    · obtain ⟨j, y, rfl, hy, hs⟩ := mem_longN.mp (longA_iff.mp hn)
      rcases pt.c2 j y hy hs with z | ⟨b, z⟩
      · exact nomatch z
      · obtain ⟨b', h1, _⟩ := inv_of z
        rw [h1]
        exact fun q => nomatch q
  · rintro ⟨t, h, m⟩
    exact part_pex m L 0 [] rfl (Nat.zero_add _) fun j => ⟨fun z => (nomatch z), fun ⟨i, hi, _⟩ => absurd hi (Nat.not_lt_zero i)⟩
/-! ### by bars that go over to others: t, from numbers to bars -/
structure FPre (E : Int → List Int) (m : Nat) (at_ : Int) (t : PF) (S : List Int) : Prop where
  edges : ∀ n b, t n = some b → n ∈ E b
  inj : ∀ n n' b, n ∉ S → n' ∉ S → t n = some b → t n' = some b → n = n'
  out : ∀ n, n ∉ S → t n ≠ some at_
  nd : S.Nodup
  rng : ∀ n ∈ S, 0 ≤ n ∧ n < (m : Int)
structure FYes (E : Int → List Int) (at_ : Int) (t : PF) (S : List Int) (t' : PF) : Prop where
  edges : ∀ n b, t' n = some b → n ∈ E b
  same : ∀ n ∈ S, t' n = t n
  inj : ∀ n n' b, n ∉ S → n' ∉ S → t' n = some b → t' n' = some b → n = n'
  sub : ∀ n b, n ∉ S → t' n = some b → b = at_ ∨ ∃ n', n' ∉ S ∧ t n' = some b
  sup : ∀ b, (b = at_ ∨ ∃ n', n' ∉ S ∧ t n' = some b) → ∃ n, n ∉ S ∧ t' n = some b
/-- nothing found so far: xs are gone through -/
structure FNo (E : Int → List Int) (m : Nat) (t : PF) (S : List Int) (xs S' : List Int) : Prop where
  sub : ∀ n ∈ S, n ∈ S'
  nd : S'.Nodup
  rng : ∀ n ∈ S', 0 ≤ n ∧ n < (m : Int)
  all : ∀ n ∈ xs, n ∈ S'
  shut : ∀ n ∈ S', n ∉ S → ∃ b, t n = some b ∧ ∀ n' ∈ E b, n' ∈ S'
theorem FPre.start {E : Int → List Int} {m : Nat} {a : Int} {t : PF} {S : List Int} (p : FPre E m a t S) : FNo E m t S [] S := ⟨fun _ z => z, p.nd, p.rng, (fun _ z => nomatch z), fun n h1 h2 => absurd h1 h2⟩
theorem FNo.seen {E : Int → List Int} {m : Nat} {t : PF} {S xs S' : List Int} {n : Int} (x : FNo E m t S xs S') (h : n ∈ S') : FNo E m t S (xs ++ [n]) S' := ⟨x.sub, x.nd, x.rng, fun u hu => by
  rcases List.mem_append.mp hu with z | z
  · exact x.all u z
  · rw [List.mem_singleton.mp z]
    exact h, x.shut⟩
theorem nodup_snoc {l : List Int} {n : Int} (nd : l.Nodup) (h : n ∉ l) : (l ++ [n]).Nodup := List.nodup_append.mpr ⟨nd, List.pairwise_singleton _ n, fun u hu v hv z => h (by rw [← List.mem_singleton.mp hv, ← z]; exact hu)⟩
theorem rng_snoc {l : List Int} {m : Nat} {n : Int} (h : ∀ n ∈ l, 0 ≤ n ∧ n < (m : Int)) (hn : 0 ≤ n ∧ n < (m : Int)) : ∀ u ∈ l ++ [n], 0 ≤ u ∧ u < (m : Int) := fun u hu => by
  rcases List.mem_append.mp hu with z | z
  · exact h u z
  · rw [List.mem_singleton.mp z]
    exact hn
/-- a free number -/
theorem FNo.take {E : Int → List Int} {m : Nat} {a n : Int} {t : PF} {S xs S' : List Int} (p : FPre E m a t S) (x : FNo E m t S xs S') (hn : n ∉ S') (ha : n ∈ E a) (ht : t n = none) : FYes E a t S (fset t n a) := by
  have nS : n ∉ S := fun z => hn (x.sub n z)
  refine ⟨fun u b e => ?_, fun u hu => fset_ne fun z => nS (by rw [← z]; exact hu), fun u u' b h1 h2 e1 e2 => ?_, fun u b h1 e => ?_, fun b hb => ?_⟩
  · by_cases z : u = n
    · rw [z, fset_same] at e
      cases e
      rw [z]
      exact ha
    · rw [fset_ne z] at e
      exact p.edges u b e
  · by_cases z : u = n
    · rw [z, fset_same] at e1
      cases e1
      by_cases z' : u' = n
      · rw [z, z']
      · rw [fset_ne z'] at e2
        exact absurd e2 (p.out u' h2)
    · rw [fset_ne z] at e1
      by_cases z' : u' = n
      · rw [z', fset_same] at e2
        cases e2
        exact absurd e1 (p.out u h1)
      · rw [fset_ne z'] at e2
        exact p.inj u u' b h1 h2 e1 e2
  · by_cases z : u = n
    · rw [z, fset_same] at e
      exact .inl (Option.some.inj e).symm
    · rw [fset_ne z] at e
      exact .inr ⟨u, h1, e⟩
  · rcases hb with z | ⟨u, h1, e⟩
    · exact ⟨n, nS, by rw [fset_same, z]⟩
    · exact ⟨u, h1, by rw [fset_ne fun z => by rw [z, ht] at e; cases e]; exact e⟩
/-- the holder is asked to go over -/
theorem FNo.ask {E : Int → List Int} {m : Nat} {a n b : Int} {t : PF} {S xs S' : List Int} (p : FPre E m a t S) (x : FNo E m t S xs S') (hn : n ∉ S') (hm : 0 ≤ n ∧ n < (m : Int)) (ht : t n = some b) : FPre E m b t (S' ++ [n]) := by
  have nS : n ∉ S := fun z => hn (x.sub n z)
  have up : ∀ {u}, u ∉ S' ++ [n] → u ∉ S ∧ u ≠ n := fun {u} h => ⟨fun z => h (List.mem_append_left _ (x.sub u z)), fun z => h (List.mem_append_right _ (List.mem_singleton.mpr z))⟩
  exact ⟨p.edges, fun u u' c h1 h2 e1 e2 => p.inj u u' c (up h1).1 (up h2).1 e1 e2, fun u h e => (up h).2 (p.inj u n b (up h).1 nS e ht), nodup_snoc x.nd hn, rng_snoc x.rng hm⟩
theorem FNo.yes {E : Int → List Int} {m : Nat} {a n b : Int} {t t1 : PF} {S xs S' : List Int} (p : FPre E m a t S) (x : FNo E m t S xs S') (hn : n ∉ S') (ha : n ∈ E a) (ht : t n = some b) (y : FYes E b t (S' ++ [n]) t1) : FYes E a t S (fset t1 n a) := by
  have nS : n ∉ S := fun z => hn (x.sub n z)
  have ab : a ≠ b := fun z => p.out n nS (by rw [z]; exact ht)
  have mem : ∀ {u}, u ∈ S' ++ [n] ↔ u ∈ S' ∨ u = n := fun {u} => by rw [List.mem_append, List.mem_singleton]
  -- what a number holds now
  have cases_ : ∀ u c, u ∉ S → u ≠ n → t1 u = some c → (u ∈ S' ∧ t u = some c) ∨ (u ∉ S' ++ [n] ∧ (c = b ∨ ∃ u', u' ∉ S' ++ [n] ∧ t u' = some c)) := fun u c h1 h2 e => by
    by_cases z : u ∈ S' ++ [n]
    · rw [y.same u z] at e
      exact .inl ⟨(mem.mp z).resolve_right h2, e⟩
    · exact .inr ⟨z, y.sub u c z e⟩
  have noA : ∀ u, u ∉ S → u ≠ n → t1 u ≠ some a := fun u h1 h2 e => by
    rcases cases_ u a h1 h2 e with ⟨_, z⟩ | ⟨_, z | ⟨u', h3, z⟩⟩
    · exact p.out u h1 z
    · exact ab z
    · exact p.out u' (fun q => h3 (mem.mpr (.inl (x.sub _ q)))) z
  refine ⟨fun u c e => ?_, fun u hu => ?_, fun u u' c h1 h2 e1 e2 => ?_, fun u c h1 e => ?_, fun c hc => ?_⟩
  · by_cases z : u = n
    · rw [z, fset_same] at e
      cases e
      rw [z]
      exact ha
    · rw [fset_ne z] at e
      exact y.edges u c e
  · rw [fset_ne fun z => nS (by rw [← z]; exact hu)]
    exact y.same u (mem.mpr (.inl (x.sub u hu)))
  · by_cases z : u = n
    · rw [z, fset_same] at e1
      cases e1
      by_cases z' : u' = n
      · rw [z, z']
      · rw [fset_ne z'] at e2
        exact absurd e2 (noA u' h2 z')
    · rw [fset_ne z] at e1
      by_cases z' : u' = n
      · rw [z', fset_same] at e2
        cases e2
        exact absurd e1 (noA u h1 z)
      · rw [fset_ne z'] at e2
        have mixed : ∀ v v', v ∉ S → v ≠ n → v ∈ S' → t v = some c → v' ∉ S' ++ [n] → (c = b ∨ ∃ u', u' ∉ S' ++ [n] ∧ t u' = some c) → v = v' := fun v v' k1 k2 k3 k4 k5 k6 => by
          rcases k6 with q | ⟨w, k7, k8⟩
          · exact absurd (p.inj v n b k1 nS (by rw [← q]; exact k4) ht) k2
          · have := p.inj v w c k1 (fun q => k7 (mem.mpr (.inl (x.sub _ q)))) k4 k8
            exact absurd (mem.mpr (.inl (by rw [← this]; exact k3))) k7
        rcases cases_ u c h1 z e1 with ⟨i1, i2⟩ | ⟨i1, i2⟩ <;> rcases cases_ u' c h2 z' e2 with ⟨j1, j2⟩ | ⟨j1, j2⟩
        · exact p.inj u u' c h1 h2 i2 j2
        · exact mixed u u' h1 z i1 i2 j1 j2
        · exact (mixed u' u h2 z' j1 j2 i1 i2).symm
        · exact y.inj u u' c i1 j1 e1 e2
  · by_cases z : u = n
    · rw [z, fset_same] at e
      exact .inl (Option.some.inj e).symm
    · rw [fset_ne z] at e
      rcases cases_ u c h1 z e with ⟨_, q⟩ | ⟨_, q | ⟨u', h3, q⟩⟩
      · exact .inr ⟨u, h1, q⟩
      · exact .inr ⟨n, nS, by rw [q]; exact ht⟩
      · exact .inr ⟨u', fun w => h3 (mem.mpr (.inl (x.sub _ w))), q⟩
  · have put : ∀ u, u ∉ S' ++ [n] → t1 u = some c → ∃ u, u ∉ S ∧ fset t1 n a u = some c := fun u h1 h2 => ⟨u, fun z => h1 (mem.mpr (.inl (x.sub _ z))), by rw [fset_ne fun z => h1 (mem.mpr (.inr z))]; exact h2⟩
    rcases hc with z | ⟨u, h1, e⟩
    · exact ⟨n, nS, by rw [fset_same, z]⟩
    · by_cases q : u = n
      · rw [q, ht] at e
        cases e
        obtain ⟨u', h2, h3⟩ := y.sup b (.inl rfl)
        exact put u' h2 h3
      · by_cases q2 : u ∈ S'
        · exact ⟨u, h1, by rw [fset_ne q, y.same u (mem.mpr (.inl q2))]; exact e⟩
        · obtain ⟨u', h2, h3⟩ := y.sup c (.inr ⟨u, fun w => (mem.mp w).elim q2 q, e⟩)
          exact put u' h2 h3
theorem FNo.no {E : Int → List Int} {m : Nat} {n b : Int} {t : PF} {S xs S' S1 : List Int} (x : FNo E m t S xs S') (ht : t n = some b) (y : FNo E m t (S' ++ [n]) (E b) S1) : FNo E m t S (xs ++ [n]) S1 := by
  have up : ∀ u ∈ S', u ∈ S1 := fun u hu => y.sub u (List.mem_append_left _ hu)
  have hn : n ∈ S1 := y.sub n (List.mem_append_right _ (List.mem_singleton.mpr rfl))
  refine ⟨fun u hu => up u (x.sub u hu), y.nd, y.rng, fun u hu => ?_, fun u hu nu => ?_⟩
  · rcases List.mem_append.mp hu with z | z
    · exact up u (x.all u z)
    · rw [List.mem_singleton.mp z]
      exact hn
  · by_cases z : u ∈ S' ++ [n]
    · rcases List.mem_append.mp z with z | z
      · obtain ⟨c, h1, h2⟩ := x.shut u z nu
        exact ⟨c, h1, fun v hv => up v (h2 v hv)⟩
      · rw [List.mem_singleton.mp z]
        exact ⟨b, ht, y.all⟩
    · exact y.shut u hu z
/-! ### all of one side -/
/-- the long ones below i are in t, from numbers to bars -/
structure Upto (E : Int → List Int) (A : Int → Bool) (i : Nat) (t : PF) : Prop where
  edges : ∀ n b, t n = some b → n ∈ E b
  inj : ∀ n n' b, t n = some b → t n' = some b → n = n'
  vals : ∀ n b, t n = some b → A b = true ∧ b < (i : Int)
  cov : ∀ b : Int, 0 ≤ b → b < (i : Int) → A b = true → ∃ n, t n = some b
theorem Upto.zero {E : Int → List Int} {A : Int → Bool} : Upto E A 0 noF := ⟨(fun _ _ z => nomatch z), (fun _ _ _ z => nomatch z), (fun _ _ z => nomatch z), fun b h1 h2 => by omega⟩
theorem Upto.skip {E : Int → List Int} {A : Int → Bool} {i : Nat} {t : PF} (x : Upto E A i t) (h : A (i : Int) = false) : Upto E A (i + 1) t := ⟨x.edges, x.inj, fun n b e => let ⟨h1, h2⟩ := x.vals n b e; ⟨h1, by omega⟩, fun b h1 h2 h3 => by
  by_cases z : b = (i : Int)
  · rw [z, h] at h3
    cases h3
  · exact x.cov b h1 (by omega) h3⟩
theorem Upto.pre {E : Int → List Int} {A : Int → Bool} {m i : Nat} {t : PF} (x : Upto E A i t) : FPre E m (i : Int) t [] := ⟨x.edges, fun n n' b _ _ => x.inj n n' b, fun n _ e => by have := (x.vals n _ e).2; omega, List.nodup_nil, fun _ z => nomatch z⟩
theorem Upto.yes {E : Int → List Int} {A : Int → Bool} {i : Nat} {t t' : PF} (x : Upto E A i t) (h : A (i : Int) = true) (y : FYes E (i : Int) t [] t') : Upto E A (i + 1) t' := by
  have no : ∀ n : Int, n ∉ ([] : List Int) := fun n z => nomatch z
  refine ⟨y.edges, fun n n' b => y.inj n n' b (no n) (no n'), fun n b e => ?_, fun b h1 h2 h3 => ?_⟩
  · rcases y.sub n b (no n) e with z | ⟨n', _, z⟩
    · rw [z]
      exact ⟨h, by omega⟩
    · have := x.vals n' b z
      exact ⟨this.1, by omega⟩
  · by_cases z : b = (i : Int)
    · obtain ⟨n, _, e⟩ := y.sup b (.inl z)
      exact ⟨n, e⟩
    · obtain ⟨n, e⟩ := x.cov b h1 (by omega) h3
      obtain ⟨n', _, e'⟩ := y.sup b (.inr ⟨n, no n, e⟩)
      exact ⟨n', e'⟩
theorem Upto.no {E : Int → List Int} {A : Int → Bool} {m i : Nat} {t : PF} {S : List Int} (x : Upto E A i t) (h : A (i : Int) = true) (y : FNo E m t [] (E i) S) : Hall E A ((i : Int) :: S.map fun n => (t n).getD 0) := by
  have val : ∀ n ∈ S, ∃ b, t n = some b ∧ ∀ n' ∈ E b, n' ∈ S := fun n hn => y.shut n hn fun z => nomatch z
  refine ⟨List.nodup_cons.mpr ⟨fun z => ?_, nodup_on (fun n hn n' hn' e => ?_) y.nd⟩, fun b hb => ?_, S, fun b hb n hn => ?_, ?_⟩
  · obtain ⟨n, hn, e⟩ := List.mem_map.mp z
    obtain ⟨b, hb, _⟩ := val n hn
    rw [hb] at e
    have e' : b = (i : Int) := e
    have := (x.vals n b hb).2
    omega
  · obtain ⟨b, hb, _⟩ := val n hn
    obtain ⟨b', hb', _⟩ := val n' hn'
    rw [hb, hb'] at e
    have e' : b = b' := e
    exact x.inj n n' b hb (by rw [e']; exact hb')
  · rcases List.mem_cons.mp hb with z | z
    · rw [z]
      exact h
    · obtain ⟨n, hn, rfl⟩ := List.mem_map.mp z
      obtain ⟨b, hb, _⟩ := val n hn
      rw [hb]
      exact (x.vals n b hb).1
  · rcases List.mem_cons.mp hb with z | z
    · rw [z] at hn
      exact y.all n hn
    · obtain ⟨u, hu, rfl⟩ := List.mem_map.mp z
      obtain ⟨b, hb, hS⟩ := val u hu
      rw [hb] at hn
      exact hS n hn
  · rw [List.length_cons, List.length_map]
    exact Nat.lt_succ_self _
/-- what one side comes to: all of it in t, or a lot that meets too few -/
def SideP (L M : List Bar) (e : Int) : Prop := ∃ t : PF, Edges (fitF L M e) t ∧ (∀ b b' n, t b = some n → t b' = some n → b = b') ∧ ∀ b, longA L e b = true → t b ≠ none
theorem Upto.side {L M : List Bar} {e : Int} {t : PF} (x : Upto (fitF L M e) (longA L e) L.length t) : SideP L M e := by
  refine ⟨inv t, fun b n z => x.edges n b (inv_some z), fun b b' n h1 h2 => ?_, fun b hb => ?_⟩
  · have e1 := inv_some h1
    rw [inv_some h2] at e1
    exact (Option.some.inj e1).symm
  · obtain ⟨i, u, rfl, hu, _⟩ := mem_longN.mp (longA_iff.mp hb)
    have := (List.getElem?_eq_some_iff.mp hu).1
    obtain ⟨n, hn⟩ := x.cov (i : Int) (by omega) (by omega) hb
    obtain ⟨n', h1, _⟩ := inv_of hn
    rw [h1]
    exact fun q => nomatch q
theorem side_no {L M : List Bar} {e : Int} {as : List Int} (h : Hall (fitF L M e) (longA L e) as) : ¬ SideP L M e := fun ⟨_, h1, h2, h3⟩ => h.no h1 h2 h3
theorem Match.side {L M : List Bar} {e : Int} {t h : PF} (x : Match L M e t h) : SideP L M e := ⟨t, x.edges, x.both.inj, x.c1⟩
/-- both sides are enough -/
theorem sides_iff {L M : List Bar} {e : Int} (lL : L.length ≤ 20) (lM : M.length ≤ 20) : (SideP L M e ∧ SideP M L e) ↔ ∃ t h, Match L M e t h := by
  constructor
  · rintro ⟨s1, s2⟩
    obtain ⟨r, _, ok⟩ := pob_ok L M e lL lM
    match r, ok with
    | .inl t, ⟨h, m⟩ => exact ⟨t, h, m⟩
    | .inr (s, as), ok => exact (ok.elim (fun z => side_no z.2 s1) fun z => side_no z.2 s2).elim
  · rintro ⟨t, h, m⟩
    exact ⟨m.side, m.symm.side⟩
/-- a ban, and no pairing -/
theorem ban_no {L M : List Bar} {e s : Int} {as : List Int} (lL : L.length ≤ 20) (lM : M.length ≤ 20) (h : PobOk L M e (.inr (s, as))) : ¬ ∃ t h, Match L M e t h := fun z => by
  have := (sides_iff lL lM).mpr z
  exact h.elim (fun q => side_no q.2 this.1) fun q => side_no q.2 this.2
end E47

set_option Elab.async false
set_option linter.all false
set_option maxRecDepth 100000
set_option maxHeartbeats 4000000
set_option pp.maxSteps 100
/-! Bars that let numbers go on: shift, place_bar. -/
namespace E47
open PySem L2
abbrev sShift : Stmt := top 19
abbrev sPlace : Stmt := top 20
theorem hu_of {k : Nat} {A : Around} (hr : Room k A) : A.units + 1 < cLine := by have := hr.un; omega
def spShift : Sp := fun vs H Q _ => ∃ (cm tk hd : Addr) (n : Int) (B N : Nat) (c t h : PF) (lc lt lh : Nat) (j : Nat) (t' h' : PF), vs = [.ref cm, .ref tk, .ref hd, .int n] ∧ B ≤ 1000 ∧ N ≤ 1000 ∧ cm ≠ tk ∧ cm ≠ hd ∧ tk ≠ hd ∧
  DI H cm N B c lc ∧ DI H tk B N t lt ∧ DI H hd N B h lh ∧ shiftF c j t h n = some (t', h') ∧
  ∀ (lt' lh' : Nat) (H' : Hp), DI H' tk B N t' lt' → DI H' hd N B h' lh' → (∀ b, b ≠ tk → b ≠ hd → H' b = H b) → Q .non H'
/-- rows of numbers below N, as many as B -/
def RowsF (H : Hp) (fi : Addr) (F : Int → List Int) (B N : Nat) : Prop := ∃ rs : List Addr, H fi = some (.lst (rs.map V.ref)) ∧ rs.length = B ∧ (∀ (i : Nat) (r : Addr), rs[i]? = some r → H r = some (.lst ((F (i : Int)).map V.int))) ∧ (∀ b, ∀ n ∈ F b, 0 ≤ n ∧ n < (N : Int)) ∧ ∀ b, (F b).length ≤ 60
/-- all but the two dicts stays -/
def KeepD (tk hd : Addr) (H J : Hp) : Prop := ∀ b o, b ≠ tk → b ≠ hd → H b = some o → J b = some o
theorem KeepD.refl {tk hd : Addr} {H : Hp} : KeepD tk hd H H := fun _ _ _ _ h => h
theorem KeepD.trans {tk hd : Addr} {H J L : Hp} (a : KeepD tk hd H J) (b : KeepD tk hd J L) : KeepD tk hd H L := fun c o n m h => b c o n m (a c o n m h)
theorem KeepD.ext {tk hd : Addr} {H J L : Hp} (a : KeepD tk hd H J) (e : Ext J L) : KeepD tk hd H L := fun c o n m h => e c o (a c o n m h)
/-- a store at what is new since -/
theorem KeepD.put {tk hd l : Addr} {H J : Hp} {o : HO} (a : KeepD tk hd H J) (nl : H l = none) : KeepD tk hd H (upd J l o) := fun c u n m h => by
  rw [upd_ne (ne_of_none h nl)]
  exact a c u n m h
theorem RowsF.keep {H J : Hp} {tk hd fi : Addr} {F : Int → List Int} {B N : Nat} {t h : PF} {lt lh : Nat} (k : KeepD tk hd H J) (ht : DI H tk B N t lt) (hh : DI H hd N B h lh) (x : RowsF H fi F B N) : RowsF J fi F B N := by
  obtain ⟨k1, e1, _⟩ := ht
  obtain ⟨k2, e2, _⟩ := hh
  have nl : ∀ {q : Addr} {xs : List V}, H q = some (.lst xs) → q ≠ tk ∧ q ≠ hd := fun hq => ⟨(fun z => by rw [z, e1] at hq; cases hq), (fun z => by rw [z, e2] at hq; cases hq)⟩
  obtain ⟨rs, h1, h2, h3, h4⟩ := x
  exact ⟨rs, k _ _ (nl h1).1 (nl h1).2 h1, h2, fun i r hr => k _ _ (nl (h3 i r hr)).1 (nl (h3 i r hr)).2 (h3 i r hr), h4⟩
/-- what placing gives -/
def Placed (H : Hp) (tk hd : Addr) (B N : Nat) (Q : VK) : List Int ⊕ (PF × PF) → Prop
  | .inl as => ∀ (p : Addr) (H' : Hp), Ext H H' → H' p = some (.tup ((sortL as).map V.int)) → Q (.ref p) H'
  | .inr (t', h') => ∀ (lt' lh' : Nat) (H' : Hp), DI H' tk B N t' lt' → DI H' hd N B h' lh' → KeepD tk hd H H' → Q .non H'
def spPlace : Sp := fun vs H Q _ => ∃ (ln fi tk hd : Addr) (start : Int) (ls : List Int) (B N : Nat) (F : Int → List Int) (A : Int → Bool) (t h : PF) (lt lh : Nat) (r : List Int ⊕ (PF × PF)), vs = [.int start, .ref ln, .ref fi, .ref tk, .ref hd] ∧ B ≤ 60 ∧ N ≤ 60 ∧ tk ≠ hd ∧ (0 ≤ start ∧ start < (B : Int)) ∧
  H ln = some (.lst (ls.map V.int)) ∧ (∀ b, A b = ls.any fun y => y == b) ∧ RowsF H fi F B N ∧ DI H tk B N t lt ∧ DI H hd N B h lh ∧ PlaceR F A start t h r ∧ Placed H tk hd B N Q r
/-- the same numbers, one order -/
theorem perm_le : ∀ {l m : List Int}, l.Pairwise (· ≤ ·) → m.Pairwise (· ≤ ·) → l.Perm m → l = m
  | [], m, _, _, p => (List.Perm.nil_eq p)
  | x :: l, [], _, _, p => by
    have := p.length_eq
    simp at this
  | x :: l, y :: m, hl, hm, p => by
    obtain ⟨l1, l2⟩ := List.pairwise_cons.mp hl
    obtain ⟨m1, m2⟩ := List.pairwise_cons.mp hm
    have e : x = y := by
      rcases List.mem_cons.mp (p.mem_iff.mp List.mem_cons_self) with z | z
      · exact z
      · rcases List.mem_cons.mp (p.mem_iff.mpr (List.mem_cons_self (a := y) (l := m))) with w | w
        · exact w.symm
        · have a1 := m1 x z
          have a2 := l1 y w
          omega
    subst e
    rw [perm_le l2 m2 (List.Perm.cons_inv p)]
theorem in_ints (b : Int) (ls : List Int) : inV (.int b) (ls.map V.int) = ls.any fun y => y == b := by
  unfold inV
  rw [List.any_map]
  rfl
theorem non_ints : ∀ ls : List Int, inV .non (ls.map V.int) = false
  | [] => rfl
  | x :: r => by
    have ih := non_ints r
    unfold inV at ih ⊢
    rw [List.map_cons, List.any_cons, ih]
    rfl
section
variable {P : Program} {w : World} {K : PySem.W.Frag} {mg : Str → Option Value} {base : Heap}
abbrev shiftN : List Str := ["came", "taken", "holders", "number", "bar", "left"]
theorem scShift : FnScope shiftN ["came", "taken", "holders", "number"] (defScope sShift) := ⟨rfl, rfl, rfl, by decide +kernel, rfl, by decide +kernel, by decide +kernel⟩
theorem ok_shift {f : Addr} {fd : FuncData} (F : L2.Fun K "shift" "shift" sShift f fd) : FnOk P w K mg base CX0 1 f fd ["came", "taken", "holders", "number"] spShift := by
  refine F.ok scShift (fun vs H Q E h => ?_) (fun cdv A outer s H vs Q E hr h => ?_)
  · obtain ⟨cm, tk, hd, n, B, N, c, t, h, lc, lt, lh, j, t', h', rfl, _⟩ := h
    rfl
  · obtain ⟨cm, tk, hd, n, B, N, c, t, h, lc, lt, lh, j, t', h', rfl, lB, lN, nct, nch, nth, dc, dt, dh, run, k⟩ := h
    have hu1 := hu_of hr
    refine ⟨_, pss_one (ps_while PassesOwn.never (pt_cmpR op_notN (pv 3) pe_non (nomark _))
      (pss_cons (ps_set (i := 4) scShift.nd rfl (Or.inl rfl) (pe_dget hu1 (pv 0) (pv 3) (fun _ _ => rfl)))
      (pss_cons (ps_set (i := 5) scShift.nd rfl (Or.inl rfl) (pe_dget1 hu1 (pv 1) (pv 4) ⟨rfl, rfl, rfl, rfl⟩))
      (pss_cons (ps_dput hu1 (pv 1) (pv 4) (pv 3) rfl)
      (pss_cons (ps_dput hu1 (pv 2) (pv 3) (pv 4) rfl)
      (pss_one (ps_set (i := 3) scShift.nd rfl (Or.inl rfl) (pv 5)))))))), ?_⟩
    refine ⟨fun m σ' J => (∃ (n : Int) (t h : PF) (lt lh : Nat) (v4 v5 : Option V), σ' = [some (.ref cm), some (.ref tk), some (.ref hd), some (.int n), v4, v5] ∧ (∀ b, b ≠ tk → b ≠ hd → J b = H b) ∧ DI J tk B N t lt ∧ DI J hd N B h lh ∧ shiftF c m t h n = some (t', h')) ∨
      (∃ (lt lh : Nat) (v4 v5 : Option V), σ' = [some (.ref cm), some (.ref tk), some (.ref hd), some .non, v4, v5] ∧ (∀ b, b ≠ tk → b ≠ hd → J b = H b) ∧ DI J tk B N t' lt ∧ DI J hd N B h' lh),
      ⟨_, .inl ⟨n, t, h, lt, lh, _, _, rfl, fun _ _ _ => rfl, dt, dh, run⟩⟩, ?_⟩
    rintro m σ' J (⟨n, t, h, lt, lh, v4, v5, rfl, fr, dt, dh, run⟩ | ⟨lt, lh, v4, v5, rfl, fr, dt, dh⟩)
    rotate_left
    · refine ⟨_, rfl, rfl, _, rfl, ?_⟩
      refine iteF (k lt lh J dt dh fr)
    cases m with
    | zero => cases run
    | succ m =>
    unfold shiftF at run
    refine ⟨_, rfl, rfl, _, rfl, ?_⟩
    refine iteT ?_
    have dcJ : DI J cm N B c lc := dc.frame (fr cm nct nch)
    cases hc : c n with
    | none => rw [hc] at run; cases run
    | some b0 =>
    rw [hc] at run
    dsimp only at run
    have rc := dcJ.rng hc
    refine ⟨fun σ' J' => ∃ m', m' < m + 1 ∧ ((∃ (n : Int) (t h : PF) (lt lh : Nat) (v4 v5 : Option V), σ' = [some (.ref cm), some (.ref tk), some (.ref hd), some (.int n), v4, v5] ∧ (∀ b, b ≠ tk → b ≠ hd → J' b = H b) ∧ DI J' tk B N t lt ∧ DI J' hd N B h lh ∧ shiftF c m' t h n = some (t', h')) ∨
      (∃ (lt lh : Nat) (v4 v5 : Option V), σ' = [some (.ref cm), some (.ref tk), some (.ref hd), some .non, v4, v5] ∧ (∀ b, b ≠ tk → b ≠ hd → J' b = H b) ∧ DI J' tk B N t' lt ∧ DI J' hd N B h' lh)), fun _ _ z => z, ?_⟩
    have gc := dcJ.get n
    rw [hc] at gc
    refine ⟨_, rfl, _, rfl, cm, _, rfl, gc, ?_⟩
    refine ⟨_, rfl, tk, rfl, .inl ⟨_, .inl dt.choose_spec.1⟩, _, rfl, _, dt.get b0, ?_⟩
    obtain ⟨kv1, l1, put1, d1, _, _⟩ := dt.put lB rc.2 rc.1 (f := t)
    have dh1 : DI (upd J tk (.dK kv1)) hd N B h lh := dh.frame (upd_ne nth.symm)
    obtain ⟨kv2, l2, put2, d2, _, _⟩ := dh1.put lN rc.1 rc.2 (f := h)
    have d1' : DI (upd (upd J tk (.dK kv1)) hd (.dK kv2)) tk B N (fset t b0 n) l1 := d1.frame (upd_ne nth)
    have fr' : ∀ b, b ≠ tk → b ≠ hd → (upd (upd J tk (.dK kv1)) hd (.dK kv2)) b = H b := fun b h1 h2 => by
      rw [upd_ne h2, upd_ne h1]
      exact fr b h1 h2
    cases ht : t b0 with
    | none =>
      rw [ht] at run
      dsimp only at run
      cases run
      refine ⟨_, rfl, _, rfl, _, rfl, _, _, rfl, put1, ?_⟩
      refine ⟨_, rfl, _, rfl, _, rfl, _, _, rfl, put2, ?_⟩
      exact ⟨_, rfl, 0, Nat.succ_pos _, .inr ⟨_, _, _, _, rfl, fr', d1', d2⟩⟩
    | some n' =>
      rw [ht] at run
      refine ⟨_, rfl, _, rfl, _, rfl, _, _, rfl, put1, ?_⟩
      refine ⟨_, rfl, _, rfl, _, rfl, _, _, rfl, put2, ?_⟩
      exact ⟨_, rfl, m, Nat.lt_succ_self _, .inl ⟨n', _, _, _, _, _, _, rfl, fr', d1', d2, run⟩⟩
abbrev placeN : List Str := ["start", "longs", "fits", "taken", "holders", "came", "asked", "waiting", "bar", "number", "holder"]
theorem scPlace : FnScope placeN ["start", "longs", "fits", "taken", "holders"] (defScope sPlace) := ⟨rfl, rfl, rfl, by decide +kernel, rfl, by decide +kernel, by decide +kernel⟩
theorem ok_place {f : Addr} {fd : FuncData} (F : L2.Fun K "place_bar" "place_bar" sPlace f fd) (T : Gb mg) (cS : Cal P w K mg base 1 "shift" spShift []) : FnOk P w K mg base CX0 2 f fd ["start", "longs", "fits", "taken", "holders"] spPlace := by
  refine F.ok scPlace (fun vs H Q E h => ?_) (fun cdv A outer s H vs Q E hr h => ?_)
  · obtain ⟨ln, fi, tk, hd, start, ls, B, N, Fr, Lo, t, h, lt', lh, r, rfl, _⟩ := h
    rfl
  · obtain ⟨ln, fi, tk, hd, start, ls, B, N, Fr, Lo, t, h, lt', lh, r, rfl, lB, lN, nth, hs, hl, isLo, rows, dt, dh, pr, k⟩ := h
    have hu1 := hu_of hr
    refine ⟨_, pss_cons (ps_set (i := 5) scPlace.nd rfl (Or.inl rfl) pe_dnewK)
      (pss_cons (ps_set (i := 6) scPlace.nd rfl (Or.inl rfl) (pe_lst pa_nil))
      (pss_cons (ps_set (i := 7) scPlace.nd rfl (Or.inl rfl) (pe_lst (pa_cons (pv 0) pa_nil)))
      (C8.pss_cut (ps_while PassesOwn.never (pt_cmpR op_gt (pe_callB call_len_seq (by rfl) T.len PySem.boot_len (pa_cons (pv 7) pa_nil)) pe_int (nomark _))
      (pss_cons (ps_set (i := 8) scPlace.nd rfl (Or.inl rfl) (pe_bm0 PySem.F.plainAttrs_list PySem.F.slot_list_pop PySem.F.type_list_pop mt_pop (pv 7)))
      (pss_cons (ps_expr (pe_bm PySem.F.plainAttrs_list PySem.F.slot_list_append PySem.F.type_list_append mt_append (pv 6) (pa_cons (pv 8) pa_nil)))
      (pss_one (ps_for PassesOwn.never rfl (pi_list (pe_ix ix_list (pv 2) (pv 8) (fun _ _ => rfl))) (pg_name (i := 9) scPlace.nd rfl (Or.inl rfl))
      (pss_one (ps_if (pt_cmp (pc_dnotin hu1 (pv 9) (pv 5)) (by rfl)) (pss_cons (ps_dput hu1 (pv 5) (pv 9) (pv 8) rfl)
      (pss_cons (ps_set (i := 10) scPlace.nd rfl (Or.inl rfl) (pe_dget1 hu1 (pv 4) (pv 9) ⟨rfl, rfl, rfl, rfl⟩))
      (pss_one (ps_if (pt_cmpR op_in_seq (pv 10) (pv 1) (by rfl)) (pss_one (ps_expr (pe_bm PySem.F.plainAttrs_list PySem.F.slot_list_append PySem.F.type_list_append mt_append (pv 7) (pa_cons (pv 10) pa_nil)))) (pss_cons (ps_expr (pe_bm PySem.F.plainAttrs_dict PySem.F.slot_dict_pop PySem.F.type_dict_pop mt_popN (pv 3) (pa_cons (pv 10) (pa_cons pe_non pa_nil))))
      (pss_cons (ps_expr (C8.pe_c cS hr (by decide) (by rfl) (pa_cons (pv 5) (pa_cons (pv 3) (pa_cons (pv 4) (pa_cons (pv 9) pa_nil))))))
      (pss_one (ps_ret pe_non)))))))) pss_nil)))))))
      (pss_one (ps_ret (pe_callTy call_tuple_of (by rfl) T.tup (by decide +kernel) (pa_cons (pe_callB (r := rSorted K) cr_sorted (by rfl) T.sorted (by decide +kernel) (pa_cons (pv 6) pa_nil)) pa_nil))))))), ?_⟩
    -- what the search comes to
    obtain ⟨kf, R0, kf60, srch, lotK, putK⟩ : ∃ (kf : Nat) (R0 : List Int ⊕ (PF × Int)), kf ≤ 60 ∧ searchF Fr Lo h kf (fun _ => none) [] [start] = some R0 ∧ (∀ as, R0 = .inl as → Placed H tk hd B N Q (.inl as)) ∧ (∀ c q, R0 = .inr (c, q) → ∃ j t' h', shiftF c j (letF t h q) h q = some (t', h') ∧ Placed H tk hd B N Q (.inr (t', h'))) := by
      cases pr with
      | lot a b => exact ⟨_, _, a, b, (fun as e => by cases e; exact k), fun c q e => nomatch e⟩
      | put a b c => exact ⟨_, _, a, b, (fun as e => nomatch e), fun c' q e => by cases e; exact ⟨_, _, _, c, k⟩⟩
    obtain ⟨rs, hfi, lrs, hrs, inN, few⟩ := rows
    have ntk : H tk ≠ none := by obtain ⟨kv, e, _⟩ := dt; rw [e]; exact fun z => nomatch z
    have nhd : H hd ≠ none := by obtain ⟨kv, e, _⟩ := dh; rw [e]; exact fun z => nomatch z
    have lstK : ∀ {J : Hp} {q : Addr} {xs : List V}, KeepD tk hd H J → H q = some (.lst xs) → J q = some (.lst xs) := fun kj hq => kj _ _ (fun z => by obtain ⟨kv, e, _⟩ := dt; rw [z, e] at hq; cases hq) (fun z => by obtain ⟨kv, e, _⟩ := dh; rw [z, e] at hq; cases hq) hq
    -- what is new
    intro cm ncm
    have x1 := Ext.upd (o := .dK []) ncm
    refine ⟨by show 0 ≤ sizeLine; decide, fun la nla => ?_⟩
    have x2 := Ext.upd (o := .lst []) nla
    refine ⟨_, rfl, by show 1 ≤ sizeLine; decide, fun lw nlw => ?_⟩
    have x3 := Ext.upd (o := .lst [V.int start]) nlw
    have Hla : H la = none := none_back x1 nla
    have Hlw : H lw = none := none_back (x1.trans x2) nlw
    have cma : cm ≠ la := fun z => by rw [← z, upd_same] at nla; cases nla
    have cmw : cm ≠ lw := fun z => by rw [← z, x2 _ _ upd_same] at nlw; cases nlw
    have law : la ≠ lw := fun z => by rw [← z, upd_same] at nlw; cases nlw
    have tkc : tk ≠ cm := fun z => ntk (by rw [z]; exact ncm)
    have hdc : hd ≠ cm := fun z => nhd (by rw [z]; exact ncm)
    have tka : tk ≠ la := fun z => ntk (by rw [z]; exact Hla)
    have hda : hd ≠ la := fun z => nhd (by rw [z]; exact Hla)
    have tkw : tk ≠ lw := fun z => ntk (by rw [z]; exact Hlw)
    have hdw : hd ≠ lw := fun z => nhd (by rw [z]; exact Hlw)
    have dc0 : DI (upd (upd (upd H cm (.dK [])) la (.lst [])) lw (.lst [V.int start])) cm N B (fun _ => none) 0 := DI.frame (by rw [upd_ne cmw, upd_ne cma]) DI.new
    have la0 : (upd (upd (upd H cm (.dK [])) la (.lst [])) lw (.lst [V.int start])) la = some (.lst ([].map V.int)) := by rw [upd_ne law]; exact upd_same
    have lw0 : (upd (upd (upd H cm (.dK [])) la (.lst [])) lw (.lst [V.int start])) lw = some (.lst ([start].map V.int)) := upd_same
    have kp0 : KeepD tk hd H (upd (upd (upd H cm (.dK [])) la (.lst [])) lw (.lst [V.int start])) := KeepD.refl.ext ((x1.trans x2).trans x3)
    have tk0 : (upd (upd (upd H cm (.dK [])) la (.lst [])) lw (.lst [V.int start])) tk = H tk := by rw [upd_ne tkw, upd_ne tka, upd_ne tkc]
    have hd0 : (upd (upd (upd H cm (.dK [])) la (.lst [])) lw (.lst [V.int start])) hd = H hd := by rw [upd_ne hdw, upd_ne hda, upd_ne hdc]
    generalize upd (upd (upd H cm (.dK [])) la (.lst [])) lw (.lst [V.int start]) = H3 at *
    refine ⟨fun σ' J => ∃ (as : List Int) (v8 v9 v10 : Option V), σ' = [some (.int start), some (.ref ln), some (.ref fi), some (.ref tk), some (.ref hd), some (.ref cm), some (.ref la), some (.ref lw), v8, v9, v10] ∧ KeepD tk hd H J ∧ J tk = H tk ∧ J hd = H hd ∧ J la = some (.lst (as.map V.int)) ∧ as.length ≤ 60 ∧ R0 = .inl as, ?_, ?_⟩
    · refine ⟨fun m σ' J => ∃ (c : PF) (lc : Nat) (as ws : List Int) (v8 v9 v10 : Option V), σ' = [some (.int start), some (.ref ln), some (.ref fi), some (.ref tk), some (.ref hd), some (.ref cm), some (.ref la), some (.ref lw), v8, v9, v10] ∧ KeepD tk hd H J ∧ J tk = H tk ∧ J hd = H hd ∧ DI J cm N B c lc ∧ J la = some (.lst (as.map V.int)) ∧ J lw = some (.lst (ws.map V.int)) ∧
          (∀ b ∈ ws, 0 ≤ b ∧ b < (B : Int)) ∧ as.length + m = kf ∧ ws.length ≤ 1 + 60 * as.length ∧ searchF Fr Lo h m c as ws = some R0,
        ⟨kf, fun _ => none, 0, [], [start], _, _, _, rfl, kp0, tk0, hd0, dc0, la0, lw0, (fun b hb => by rw [List.mem_singleton.mp hb]; exact hs), Nat.zero_add _, by show 1 ≤ 1 + 60 * 0; decide, srch⟩, ?_⟩
      rintro m σ' J ⟨c, lc, as, ws, v8, v9, v10, rfl, kp, etk, ehd, dc, ha, hw, rch, lam, lws, run⟩
      cases m with
      | zero => cases run
      | succ m =>
      unfold searchF at run
      refine ⟨_, rfl, lw, _, rfl, .inl (SqL.of hw), _, _, rfl, rfl, _, rfl, ?_⟩
      rw [List.length_map]
      refine ite2 (fun q => ?_) (fun q => ?_)
      rotate_left
      · have ew : ws = [] := by
          cases ws with
          | nil => rfl
          | cons x r => exact absurd (decide_eq_true (by rw [List.length_cons]; omega)) q
        subst ew
        cases run
        exact ⟨as, _, _, _, rfl, kp, etk, ehd, ha, by omega, rfl⟩
      have pos : 0 < ws.length := by
        have := of_decide_eq_true q
        omega
      obtain ⟨ws', bar, rfl⟩ : ∃ ws' bar, ws = ws' ++ [bar] := ⟨ws.dropLast, ws.getLast (fun z => by rw [z] at pos; exact absurd pos (Nat.lt_irrefl 0)), (List.dropLast_concat_getLast _).symm⟩
      have gl : (ws' ++ [bar]).getLast? = some bar := List.getLast?_concat
      rw [gl] at run
      dsimp only at run
      rw [List.dropLast_concat] at run
      have hb := rch bar (List.mem_append_right _ (List.mem_singleton.mpr rfl))
      rw [List.length_append, List.length_singleton] at lws
      refine ⟨fun σ' J' => ∃ m', m' < m + 1 ∧ ∃ (c : PF) (lc : Nat) (as ws : List Int) (v8 v9 v10 : Option V), σ' = [some (.int start), some (.ref ln), some (.ref fi), some (.ref tk), some (.ref hd), some (.ref cm), some (.ref la), some (.ref lw), v8, v9, v10] ∧ KeepD tk hd H J' ∧ J' tk = H tk ∧ J' hd = H hd ∧ DI J' cm N B c lc ∧ J' la = some (.lst (as.map V.int)) ∧ J' lw = some (.lst (ws.map V.int)) ∧
          (∀ b ∈ ws, 0 ≤ b ∧ b < (B : Int)) ∧ as.length + m' = kf ∧ ws.length ≤ 1 + 60 * as.length ∧ searchF Fr Lo h m' c as ws = some R0, fun _ _ z => z, ?_⟩
      have hw' : J lw = some (.lst ((ws' ++ [bar]).map V.int)) := hw
      refine ⟨_, rfl, .inl ⟨rfl, _, SqL.of hw⟩, lw, _, .int bar, rfl, rfl, hw, by simp, ?_⟩
      -- bar is asked
      have e1 : ((ws' ++ [bar]).map V.int).dropLast = ws'.map V.int := by rw [List.map_append]; exact List.dropLast_concat
      rw [e1]
      have ha1 : (upd J lw (.lst (ws'.map V.int))) la = some (.lst (as.map V.int)) := by rw [upd_ne law]; exact ha
      refine ⟨_, rfl, .inl ⟨rfl, _, SqL.of ha1⟩, _, rfl, la, _, _, rfl, rfl, ha1, small1000 (by rw [List.length_map]; omega), ?_⟩
      have e2 : as.map V.int ++ [V.int bar] = (as ++ [bar]).map V.int := by rw [List.map_append]; rfl
      rw [e2]
      have dc2 : DI (upd (upd J lw (.lst (ws'.map V.int))) la (.lst ((as ++ [bar]).map V.int))) cm N B c lc := dc.frame (by rw [upd_ne cma, upd_ne cmw])
      have ha2 : (upd (upd J lw (.lst (ws'.map V.int))) la (.lst ((as ++ [bar]).map V.int))) la = some (.lst ((as ++ [bar]).map V.int)) := upd_same
      have hw2 : (upd (upd J lw (.lst (ws'.map V.int))) la (.lst ((as ++ [bar]).map V.int))) lw = some (.lst (ws'.map V.int)) := by rw [upd_ne law.symm]; exact upd_same
      have kp2 : KeepD tk hd H (upd (upd J lw (.lst (ws'.map V.int))) la (.lst ((as ++ [bar]).map V.int))) := (kp.put Hlw).put Hla
      have tk2 : (upd (upd J lw (.lst (ws'.map V.int))) la (.lst ((as ++ [bar]).map V.int))) tk = H tk := by rw [upd_ne tka, upd_ne tkw]; exact etk
      have hd2 : (upd (upd J lw (.lst (ws'.map V.int))) la (.lst ((as ++ [bar]).map V.int))) hd = H hd := by rw [upd_ne hda, upd_ne hdw]; exact ehd
      generalize upd (upd J lw (.lst (ws'.map V.int))) la (.lst ((as ++ [bar]).map V.int)) = J2 at *
      -- its row
      obtain ⟨bn, rfl⟩ : ∃ bn : Nat, bar = (bn : Int) := ⟨bar.toNat, by omega⟩
      have lt : bn < rs.length := by omega
      have gr : (rs.map V.ref)[bn]? = some (.ref rs[bn]) := by rw [List.getElem?_map, List.getElem?_eq_getElem lt]; rfl
      have hrow := hrs bn _ (List.getElem?_eq_getElem lt)
      generalize rs[bn] = row at *
      have lrow := few (bn : Int)
      refine ⟨_, rfl, _, rfl, fi, _, (bn : Int), _, rfl, rfl, SqL.of (lstK kp2 hfi), at_of (j := bn) rfl gr, row, rfl, ⟨_, SqL.of (lstK kp2 hrow)⟩, ?_⟩
      generalize hRr : rowF Lo h (bn : Int) (Fr (bn : Int)) c ws' = Rr at run
      refine for_it walk_list (fun i σ' J => ∃ (c : PF) (lc1 : Nat) (ws : List Int) (v9 v10 : Option V), σ' = [some (.int start), some (.ref ln), some (.ref fi), some (.ref tk), some (.ref hd), some (.ref cm), some (.ref la), some (.ref lw), some (.int (bn : Int)), v9, v10] ∧ KeepD tk hd H J ∧ J tk = H tk ∧ J hd = H hd ∧ DI J cm N B c lc1 ∧ J la = some (.lst ((as ++ [(bn : Int)]).map V.int)) ∧ J lw = some (.lst (ws.map V.int)) ∧
          (∀ b ∈ ws, 0 ≤ b ∧ b < (B : Int)) ∧ ws.length ≤ ws'.length + i ∧ rowF Lo h (bn : Int) ((Fr (bn : Int)).drop i) c ws = Rr)
        ⟨c, lc, ws', _, _, rfl, kp2, tk2, hd2, dc2, ha2, hw2, fun b hb => rch b (List.mem_append_left _ hb), Nat.le_refl _, by rw [List.drop_zero]; exact hRr⟩ (fun i σ' J _ ⟨_, _, _, _, _, _, kj, _⟩ => SqL.of (lstK kj hrow)) ?_ ?_
      · rintro i y σ' J3 J4 hi ⟨c, lc1, ws, v9, v10, rfl, kp, etk, ehd, dc, ha, hw, rch, lwi, run2⟩ ⟨rfl, hy⟩
        obtain ⟨q, hq, rfl⟩ : ∃ q, (Fr (bn : Int))[i]? = some q ∧ y = .int q := by
          rw [List.getElem?_map] at hy
          cases e : (Fr (bn : Int))[i]? with
          | none => rw [e] at hy; cases hy
          | some q => rw [e] at hy; cases hy; exact ⟨q, rfl, rfl⟩
        have qN := inN _ q (List.mem_of_getElem? hq)
        obtain ⟨hi', eq⟩ := List.getElem?_eq_some_iff.mp hq
        have dq : (Fr (bn : Int)).drop i = q :: (Fr (bn : Int)).drop (i + 1) := by rw [List.drop_eq_getElem_cons hi', eq]
        rw [dq] at run2
        unfold rowF at run2
        refine ⟨_, rfl, _, rfl, cm, _, rfl, dc.get q, _, rfl, ?_⟩
        cases hc : c q with
        | some b =>
          rw [hc] at run2
          exact iteF ⟨c, lc1, ws, _, _, rfl, kp, etk, ehd, dc, ha, hw, rch, by omega, run2⟩
        | none =>
          rw [hc] at run2
          dsimp only at run2
          refine iteT ?_
          obtain ⟨kv1, l1, put1, d1, new1, _⟩ := dc.put (by omega) qN hb (f := c)
          refine ⟨_, rfl, _, rfl, _, rfl, _, _, rfl, put1, ?_⟩
          have kp1 := kp.put (o := .dK kv1) ncm
          have tk1 : (upd J4 cm (.dK kv1)) tk = H tk := by rw [upd_ne tkc]; exact etk
          have hd1 : (upd J4 cm (.dK kv1)) hd = H hd := by rw [upd_ne hdc]; exact ehd
          have ha1 : (upd J4 cm (.dK kv1)) la = some (.lst ((as ++ [(bn : Int)]).map V.int)) := by rw [upd_ne cma.symm]; exact ha
          have hw1 : (upd J4 cm (.dK kv1)) lw = some (.lst (ws.map V.int)) := by rw [upd_ne cmw.symm]; exact hw
          have dt1 : DI (upd J4 cm (.dK kv1)) tk B N t lt' := dt.frame tk1
          have dh1 : DI (upd J4 cm (.dK kv1)) hd N B h lh := dh.frame hd1
          generalize upd J4 cm (.dK kv1) = J5 at *
          have finish : Rr = .inr (fset c q bn, q) → ∀ (l2 : Nat) (J6 : Hp), DI J6 tk B N (letF t h q) l2 → (∀ b, b ≠ tk → J6 b = J5 b) → spShift [.ref cm, .ref tk, .ref hd, .int q] J6 (fun _ H' => Q .non H') C8.E0 := by
            intro eR l2 J6 dt6 fr6
            rw [eR] at run
            obtain ⟨j, t', h', sh, kk⟩ := putK (fset c q bn) q (Option.some.inj run).symm
            exact ⟨cm, tk, hd, q, B, N, fset c q bn, letF t h q, h, _, _, _, j, t', h', rfl, by omega, by omega, tkc.symm, hdc.symm, nth, d1.frame (fr6 cm tkc.symm), dt6, dh1.frame (fr6 hd nth.symm), sh, fun lt2 lh2 H' dt' dh' fr => kk lt2 lh2 H' dt' dh' (fun b o n1 n2 hb => by rw [fr b n1 n2, fr6 b n1]; exact kp1 b o n1 n2 hb)⟩
          refine ⟨_, rfl, hd, rfl, .inl ⟨_, .inl dh1.choose_spec.1⟩, _, rfl, _, dh1.get q, ?_⟩
          cases hh : h q with
          | none =>
            rw [hh] at run2
            have eL : letF t h q = t := by unfold letF; rw [hh]
            refine ⟨_, rfl, _, rfl, ln, _, rfl, .inl (SqL.of (lstK kp1 hl)), rfl, flat_ints ls, _, rfl, ?_⟩
            show (if (if false = true then _ else inV .non (ls.map V.int)) = true then _ else _)
            rw [if_neg Bool.false_ne_true, non_ints ls]
            refine iteF ?_
            obtain ⟨kvt, et, _⟩ := id dt1
            refine ⟨_, rfl, .inr (.inr (.inl ⟨rfl, .inl ⟨kvt, et⟩⟩)), _, rfl, tk, kvt, .non, .non, rfl, rfl, et, .inl ⟨rfl, ?_⟩⟩
            exact ⟨_, rfl, _, rfl, _, rfl, _, rfl, finish run2.symm lt' J5 (by rw [eL]; exact dt1) (fun _ _ => rfl)⟩
          | some b1 =>
            rw [hh] at run2
            dsimp only at run2
            have el : inV (V.int b1) (ls.map V.int) = Lo b1 := by rw [in_ints, isLo]
            refine ⟨_, rfl, _, rfl, ln, _, rfl, .inl (SqL.of (lstK kp1 hl)), rfl, flat_ints ls, _, rfl, ?_⟩
            show (if (if false = true then _ else inV (.int b1) (ls.map V.int)) = true then _ else _)
            rw [if_neg Bool.false_ne_true, el]
            cases hLo : Lo b1 with
            | true =>
              rw [hLo, if_pos rfl] at run2
              refine iteT ?_
              have lw2 : ws.length < sizeLine := by rw [sizeLine_eq]; omega
              refine ⟨_, rfl, .inl ⟨rfl, _, SqL.of hw1⟩, _, rfl, lw, _, _, rfl, rfl, hw1, by rw [List.length_map]; exact lw2, ?_⟩
              have rg := dh.rng hh
              have e3 : ws.map V.int ++ [V.int b1] = (ws ++ [b1]).map V.int := by rw [List.map_append]; rfl
              rw [show (Option.map V.int (some b1)).getD V.non = V.int b1 from rfl, e3]
              refine ⟨fset c q bn, l1, ws ++ [b1], _, _, rfl, kp1.put Hlw, by rw [upd_ne tkw]; exact tk1, by rw [upd_ne hdw]; exact hd1, d1.frame (upd_ne cmw), by rw [upd_ne law]; exact ha1, upd_same, fun b hbm => ?_, by rw [List.length_append, List.length_singleton]; omega, run2⟩
              rcases List.mem_append.mp hbm with m | m
              · exact rch b m
              · rw [List.mem_singleton.mp m]
                exact rg.2
            | false =>
              rw [hLo, if_neg Bool.false_ne_true] at run2
              refine iteF ?_
              have eL : letF t h q = fdel t b1 := by unfold letF; rw [hh]
              obtain ⟨kvt, kvt', l2, et, dt2, e4, val⟩ := dt1.drop b1
              refine ⟨_, rfl, .inr (.inr (.inl ⟨rfl, .inl ⟨kvt, et⟩⟩)), _, rfl, tk, kvt, .int b1, .non, rfl, rfl, et, .inr ⟨.inl b1, rfl, fun v hv => ?_, fun z => ?_⟩⟩
              rotate_left
              · have t0 : t b1 = none := by
                  rw [val] at z
                  cases e : t b1 with
                  | none => rfl
                  | some m => rw [e] at z; cases z
                have eT : fdel t b1 = t := funext fun x => by
                  by_cases e : x = b1
                  · rw [e, fdel_same, t0]
                  · rw [fdel_ne e]
                exact ⟨_, rfl, _, rfl, _, rfl, _, rfl, finish run2.symm lt' J5 (by rw [eL, eT]; exact dt1) (fun _ _ => rfl)⟩
              rw [← e4]
              exact ⟨_, rfl, _, rfl, _, rfl, _, rfl, finish run2.symm l2 _ (by rw [eL]; exact dt2) (fun b n1 => upd_ne n1)⟩
      · rintro σ' J3 ⟨c, lc1, ws, v9, v10, rfl, kp, etk, ehd, dc, ha, hw, rch, lwi, run2⟩
        rw [List.length_map, List.drop_length] at run2
        unfold rowF at run2
        rw [← run2] at run
        rw [List.length_map] at lwi
        refine ⟨m, Nat.lt_succ_self _, c, lc1, as ++ [(bn : Int)], ws, _, _, _, rfl, kp, etk, ehd, dc, ha, hw, rch, by rw [List.length_append, List.length_singleton]; omega, by rw [List.length_append, List.length_singleton]; omega, run⟩
    · rintro σ' J ⟨as, v8, v9, v10, rfl, kp, etk, ehd, ha, las, eR⟩
      refine ⟨_, rfl, la, as, rfl, SqL.of ha, by omega, fun ns' p perm srt np => ?_⟩
      refine ⟨p, _, rfl, .inl ⟨SqL.of upd_same, fun t2 nt2 => ?_⟩⟩
      have x := (Ext.upd (o := .lst (ns'.map V.int)) np).trans (Ext.upd (o := .tup (ns'.map V.int)) nt2)
      have en : ns' = sortL as := perm_le srt (sortL_le as) (perm.trans (sortL_perm as).symm)
      subst en
      refine lotK as eR t2 _ (fun b o hb => x b o ?_) upd_same
      by_cases e1 : b = tk
      · rw [e1, etk, ← e1]; exact hb
      · by_cases e2 : b = hd
        · rw [e2, ehd, ← e2]; exact hb
        · exact kp b o e1 e2 hb
end
end E47

set_option Elab.async false
set_option linter.all false
set_option maxRecDepth 100000
set_option maxHeartbeats 4000000
set_option pp.maxSteps 100
/-! sorted(d.items()), in its order. -/
namespace E47
open PySem L2 PySem.Spec PyProof.Rows
/-- sorted(d.items()), d from ints to ints: its pairs by their firsts -/
def rSortO : List V → Hp → VK → Prop := fun vs H Q => ∃ (p a : Addr) (kvs : List (Key × V)), vs = [.ref p] ∧ H p = some (DX.itemsO p a) ∧ H a = some (.dK kvs) ∧ kvs.length ≤ 1000 ∧ (∀ kv ∈ kvs, ∃ i j : Int, kv = (.inl i, .int j)) ∧
  ∀ (l : Addr) (bs : List Addr) (ps : List (Int × Int)) (H' : Hp), Ext H H' → H' l = some (.lst (bs.map V.ref)) → Paired (fun b p => H' b = some (.tup [.int p.1, .int p.2])) bs ps → (ps.map fun p => ((Sum.inl p.1 : Key), V.int p.2)).Perm kvs → ps.Pairwise (fun p q => p.1 ≤ q.1) → Q (.ref l) H'
def unR : Value → Addr
  | .ref a => a
  | _ => 0
theorem unR_map (as : List Addr) : (as.map Value.ref).map unR = as := by
  rw [List.map_map]
  exact List.map_id' as
open Classical in
noncomputable def kOf (h : Heap) (v : Value) : Int × Int := if z : ∃ x y, Srt.IsPair h v x y then (z.choose, z.choose_spec.choose) else (0, 0)
theorem kOf_eq {h : Heap} {b : Addr} {i m : Int} {t1 t2 : Nat} {c : Option Addr} {sl : Array (Option Value)} {n : Nat} (e : h.get? b = some { cls := .type "tuple", dict := c, data := .seq #[.int i t1, .int m t2] n, slots := sl }) : kOf h (.ref b) = (i, m) ∧ Srt.IsPair h (.ref b) i m := by
  have ip : Srt.IsPair h (.ref b) i m := ⟨b, _, t1, t2, n, rfl, e, rfl, rfl⟩
  have uniq : ∀ x y, Srt.IsPair h (.ref b) x y → x = i ∧ y = m := by
    rintro x y ⟨a, o, t, u, n', ea, ho, _, hd⟩
    cases ea
    rw [e] at ho
    cases ho
    injection hd with h1 _
    injection h1 with h1
    injection h1 with h2 h3
    injection h3 with h3 _
    injection h2 with h2 _
    injection h3 with h3 _
    exact ⟨h2.symm, h3.symm⟩
  refine ⟨?_, ip⟩
  have z : ∃ x y, Srt.IsPair h (.ref b) x y := ⟨i, m, ip⟩
  unfold kOf
  rw [dif_pos z]
  have := uniq _ _ z.choose_spec.choose_spec
  exact Prod.ext this.1 this.2
section
variable {X : Cx}
theorem cr_sortO (hc : X.calm = true) : CallR X (.builtin "sorted") rSortO := by
  intro pins s σ H xs us Q I r want
  obtain ⟨p, a, kvs, rfl, hp, ha, few, isI, q⟩ := want
  obtain rfl := Vals.ref1 r
  have view : s.heap.IsItemsView p a := (show ObjOk X.prog X.w H s.heap p (DX.itemsO p a) from I.hok p _ hp).1
  obtain ⟨_, low, vs, rel, ob, entries, epoch, at_, exact_, data_, keys_, pairs_, once⟩ := dk_of I.hok ha
  have l1 : kvs.length = vs.length := Paired.length rel
  have l2 : entries.size = vs.length := by rw [← Array.length_toList]; exact pairs_.length
  refine DT.sortedI (es := entries) (ep := epoch) (I.ok.hd hc) view ⟨ob, at_, exact_, data_⟩ (by rw [sizeLine_eq]; omega) fun h' tk as keep big len made => ?_
  have nd : as.Nodup := made.rise.imp fun h => Nat.ne_of_lt h
  have each : ∀ (j : Nat) (b : Addr), as[j]? = some b → ∃ (i m : Int) (t1 t2 : Nat), kvs[j]? = some (.inl i, .int m) ∧ h'.get? b = some { cls := .type "tuple", data := .seq #[.int i t1, .int m t2] } := fun j b hj => by
    obtain ⟨e, he, hg⟩ := made.pairs j b hj
    obtain ⟨kv, hkv, kis, ev⟩ := pairs_get (j := j) pairs_ (by rw [Array.getElem?_toList]; exact he)
    obtain ⟨k0, hk0, rk, rv⟩ : ∃ k0, kvs[j]? = some k0 ∧ k0.1 = kv.1 ∧ RelV k0.2 kv.2 := by
      have lt : j < kvs.length := by rw [l1]; exact (List.getElem?_eq_some_iff.mp hkv).1
      obtain ⟨kv', hkv', r1, r2⟩ := L2.paired_get rel (List.getElem?_eq_getElem lt)
      rw [hkv] at hkv'
      cases hkv'
      exact ⟨_, List.getElem?_eq_getElem lt, r1, r2⟩
    obtain ⟨i, m, rfl⟩ := isI k0 (List.mem_of_getElem? hk0)
    have rk' : Sum.inl i = kv.1 := rk
    rw [← rk'] at kis
    obtain ⟨t1, e1⟩ := Value.isInt_shape (k := i) (v := e.key) kis
    obtain ⟨t2, e2⟩ : ∃ t, kv.2 = Value.int m t := rv
    rw [e1, ev, e2] at hg
    exact ⟨i, m, t1, t2, hk0, hg⟩
  have there : (h'.push { cls := .type "list", data := .seq (as.map Value.ref).toArray }).get? h'.objs.size = some (seqObj "list" (as.map Value.ref).toArray 0) := Heap.get?_push_size _ rfl
  have kb : ∀ b o, h'.get? b = some o → b ≠ h'.objs.size ∧ (h'.push { cls := .type "list", data := .seq (as.map Value.ref).toArray }).get? b = some o := fun b o e => ⟨Nat.ne_of_lt (Heap.lt_size e), Heap.get?_push_of_some _ e⟩
  have fit : (as.map Value.ref).length ≤ sizeLine := by rw [List.length_map, sizeLine_eq]; omega
  generalize h'.push { cls := .type "list", data := .seq (as.map Value.ref).toArray } = h2 at there kb ⊢
  have each2 : ∀ (j : Nat) (b : Addr), as[j]? = some b → ∃ (i m : Int) (t1 t2 : Nat), kvs[j]? = some (.inl i, .int m) ∧ h2.get? b = some { cls := .type "tuple", data := .seq #[.int i t1, .int m t2] } := fun j b hj => by
    obtain ⟨i, m, t1, t2, h1, h3⟩ := each j b hj
    exact ⟨i, m, t1, t2, h1, (kb _ _ h3).2⟩
  have isP : ∀ v ∈ as.map Value.ref, Srt.IsPair h2 v (kOf h2 v).1 (kOf h2 v).2 := fun v hv => by
    obtain ⟨b, hb, rfl⟩ := List.mem_map.mp hv
    obtain ⟨j, hj⟩ := List.mem_iff_getElem?.mp hb
    obtain ⟨i, m, t1, t2, _, h3⟩ := each2 j b hj
    obtain ⟨e, ip⟩ := kOf_eq h3
    rw [e]
    exact ip
  have eK : kvs = as.map fun b => ((Sum.inl (kOf h2 (.ref b)).1 : Key), V.int (kOf h2 (.ref b)).2) := by
    refine List.ext_getElem? fun j => ?_
    rw [List.getElem?_map]
    cases hj : as[j]? with
    | none =>
      have := List.getElem?_eq_none_iff.mp hj
      rw [List.getElem?_eq_none_iff.mpr (by omega)]
      rfl
    | some b =>
      obtain ⟨i, m, t1, t2, hk, h3⟩ := each2 j b hj
      rw [hk]
      show some ((Sum.inl i : Key), V.int m) = some (Sum.inl (kOf h2 (.ref b)).1, V.int (kOf h2 (.ref b)).2)
      rw [(kOf_eq h3).1]
  refine wpAny_call_entry PyProof.Rows.slot_list_sort ⟨_, there, rfl⟩ PyProof.Rows.entry_list_sort (SrtO.list_sort_ord (s := { s with heap := h2, toks := tk }) (SrtO.swo_lex (kOf h2)) there fit (fun two => SrtO.pairs_sortableO (s := { s with heap := h2, toks := tk }) (by omega) isP fun o e => ?_) fun out srt stb => ⟨.none, rfl, ?_⟩) (PyProof.Rows.args_list_sort _)
  · have e' : some o = some (seqObj "list" (as.map Value.ref).toArray 0) := e.symm.trans there
    cases e'
    intro c
    exact absurd (Value.type.inj c) (by decide)
  · have perm := stb.perm
    have keepT : ∀ b o, h'.get? b = some o → (sortedHeap h2 h'.objs.size (as.map Value.ref) out.toArray).get? b = some o := fun b o e =>
      (PyProof.Rows.sortedHeap_old (kb b o e).1 (Heap.lt_size (kb b o e).2)).trans (kb b o e).2
    have keep2 : ∀ b o, s.heap.get? b = some o → (sortedHeap h2 h'.objs.size (as.map Value.ref) out.toArray).get? b = some o := fun b o e => keepT b o (keep b o e)
    obtain ⟨n, at2⟩ := PyProof.Rows.sortedHeap_at (vs := as.map Value.ref) (out := out.toArray) there
    have refs : ∀ u ∈ out, u = Value.ref (unR u) := fun u hu => by
      obtain ⟨b, _, rfl⟩ := List.mem_map.mp (perm.mem_iff.mp hu)
      rfl
    obtain ⟨bs, eo⟩ : ∃ bs : List Addr, out = bs.map Value.ref := ⟨out.map unR, by rw [List.map_map]; exact (List.map_id' out).symm.trans (List.map_congr_left fun u hu => refs u hu)⟩
    subst eo
    have pb : bs.Perm as := by
      have := perm.map unR
      rwa [unR_map, unR_map] at this
    have lb : bs.length = kvs.length := by
      have := pb.length_eq
      omega
    have new : H h'.objs.size = none := I.hok.fresh (Nat.le_of_lt big)
    have vl : Vals (bs.map V.ref) (bs.map Value.ref) := vals_maps V.ref Value.ref bs fun _ _ => rfl
    have I1 := I.laid (t' := tk) keep2 (Nat.le_of_lt big) (o := .lst (bs.map V.ref)) (a := h'.objs.size) ⟨by rw [List.length_map, sizeLine_eq]; omega, bs.map Value.ref, n, vl, at2⟩
    obtain ⟨H3, I3, x3, tr⟩ := DX.takeT (P := fun b vs => vs = [V.int (kOf h2 (.ref b)).1, V.int (kOf h2 (.ref b)).2]) I as _ I1 nd fun b hb => by
      obtain ⟨j, hj⟩ := List.mem_iff_getElem?.mp hb
      obtain ⟨i, m, t1, t2, _, hg⟩ := each j b hj
      obtain ⟨_, _, _, _, _, hg2⟩ := each2 j b hj
      have ek := (kOf_eq ((kb _ _ hg).2)).1
      have low' : s.heap.objs.size < b := made.above b hb
      refine ⟨Nat.le_of_lt low', ?_, _, rfl, fun H2 => ?_⟩
      · rw [upd_ne (kb _ _ hg).1]
        exact I.hok.fresh (Nat.le_of_lt low')
      · rw [ek]
        exact ⟨by show 2 ≤ sizeLine; decide, [.int i t1, .int m t2], .cons ⟨t1, rfl⟩ (.cons ⟨t2, rfl⟩ .nil), _, keepT _ _ hg, rfl, _, rfl⟩
    refine ⟨.ref h'.objs.size, H3, I3, rfl, q h'.objs.size bs (bs.map fun b => kOf h2 (.ref b)) H3 (fun b o e => x3 b o (by rw [upd_ne (ne_of_none e new)]; exact e)) (x3 _ _ upd_same) ?_ ?_ ?_⟩
    · have all : ∀ b ∈ bs, H3 b = some (.tup [.int (kOf h2 (.ref b)).1, .int (kOf h2 (.ref b)).2]) := fun b hb => by
        obtain ⟨vs, e, h3⟩ := tr b (pb.mem_iff.mp hb)
        rw [e] at h3
        exact h3
      clear I3 x3 tr lb vl I1 pb srt stb perm at2 keepT keep2 refs
      induction bs with
      | nil => exact .nil
      | cons b bs ih => exact .cons (all b List.mem_cons_self) (ih fun c hc => all c (List.mem_cons_of_mem _ hc))
    · rw [eK, List.map_map]
      exact pb.map _
    · have := srt
      rw [show SrtO.Srtd (fun v u => SrtO.lexB (kOf h2 v) (kOf h2 u)) (bs.map Value.ref) = List.Pairwise (fun v u => SrtO.lexB (kOf h2 u) (kOf h2 v) = false) (bs.map Value.ref) from rfl, List.pairwise_map] at this
      rw [List.pairwise_map]
      exact this.imp fun {b c} z => by
        have := SrtO.lexB_no.mp z
        omega
end
end E47

set_option Elab.async false
set_option linter.all false
set_option maxRecDepth 100000
set_option maxHeartbeats 4000000
set_option pp.maxSteps 100
/-! place_all, paired_or_banned, pairing, ban. -/
namespace E47
open PySem L2
abbrev sAll : Stmt := top 21
abbrev sPob : Stmt := top 22
abbrev sPairing : Stmt := top 23
abbrev sBan : Stmt := top 24
/-- what placing all gives -/
def AllD (H : Hp) (tk hd : Addr) (B N : Nat) (Q : VK) : Option (List Int) × PF × PF → Prop
  | (some as, _) => ∀ (p : Addr) (H' : Hp), KeepD tk hd H H' → H' p = some (.tup ((sortL as).map V.int)) → Q (.ref p) H'
  | (none, t', h') => ∀ (lt' lh' : Nat) (H' : Hp), DI H' tk B N t' lt' → DI H' hd N B h' lh' → KeepD tk hd H H' → Q .non H'
def spAll : Sp := fun vs H Q _ => ∃ (ln fi tk hd : Addr) (ls : List Int) (B N : Nat) (F : Int → List Int) (A : Int → Bool) (t h : PF) (lt lh : Nat) (R : Option (List Int) × PF × PF), vs = [.ref ln, .ref fi, .ref tk, .ref hd] ∧ B ≤ 60 ∧ N ≤ 60 ∧ tk ≠ hd ∧ (∀ i ∈ ls, 0 ≤ i ∧ i < (B : Int)) ∧
  H ln = some (.lst (ls.map V.int)) ∧ (∀ b, A b = ls.any fun y => y == b) ∧ RowsF H fi F B N ∧ DI H tk B N t lt ∧ DI H hd N B h lh ∧ AllR F A ls t h R ∧ AllD H tk hd B N Q R
/-- pairs of ints in a tuple -/
def PsAt (H : Hp) (q : Addr) (ps : List (Int × Int)) : Prop := ∃ as : List Addr, H q = some (.tup (as.map V.ref)) ∧ Paired (fun a p => H a = some (.tup [.int p.1, .int p.2])) as ps
theorem PsAt.ext {H H' : Hp} {q : Addr} {ps : List (Int × Int)} (e : Ext H H') (h : PsAt H q ps) : PsAt H' q ps := let ⟨as, h1, h2⟩ := h; ⟨as, e _ _ h1, Paired.imp' (fun _ _ z => e _ _ z) h2⟩
/-- a ban in a tuple -/
def BanAt (H : Hp) (q : Addr) (s : Int) (ns : List Int) : Prop := ∃ u, H q = some (.tup [.int s, .ref u]) ∧ H u = some (.tup (ns.map V.int))
theorem BanAt.ext {H H' : Hp} {q : Addr} {s : Int} {ns : List Int} (e : Ext H H') (h : BanAt H q s ns) : BanAt H' q s ns := let ⟨u, h1, h2⟩ := h; ⟨u, e _ _ h1, e _ _ h2⟩
/-- the two answers x, y -/
def Told (n : Nat) (H : Hp) (x y : V) : PF ⊕ (Int × List Int) → Prop
  | .inl t => y = .non ∧ ∃ q, x = .ref q ∧ PsAt H q (psOf n t)
  | .inr (s, as) => x = .non ∧ ∃ q, y = .ref q ∧ BanAt H q s (sortL as)
def spPob : Sp := fun vs H Q _ => ∃ (o1 o2 : Addr) (L M : List Bar) (e : Int) (r : PF ⊕ (Int × List Int)), vs = [.ref o1, .ref o2, .int e] ∧ BS H o1 L ∧ BS H o2 M ∧ L.length ≤ 20 ∧ M.length ≤ 20 ∧ PobR L M e r ∧ ∀ (p : Addr) (x y : V) (H' : Hp), Ext H H' → H' p = some (.tup [x, y]) → Told L.length H' x y r → Q (.ref p) H'
theorem mem_valV : ∀ {kvs : List (Key × V)} {k : Key} {v : V}, (kvs.map (·.1)).Nodup → (k, v) ∈ kvs → valV kvs k = some v
  | [], _, _, _, h => nomatch h
  | kv :: r, k, v, nd, h => by
    rw [List.map_cons] at nd
    obtain ⟨n1, n2⟩ := List.nodup_cons.mp nd
    unfold valV
    rcases List.mem_cons.mp h with z | z
    · subst z
      rw [List.find?_cons_of_pos (by simp)]
      rfl
    · have ne : kv.1 ≠ k := fun e => n1 (by rw [e]; exact List.mem_map.mpr ⟨_, z, rfl⟩)
      rw [List.find?_cons_of_neg (by simpa using ne)]
      exact mem_valV n2 z
theorem pairs_ext : ∀ {l m : List (Int × Int)}, l.Pairwise (fun p q => p.1 < q.1) → m.Pairwise (fun p q => p.1 < q.1) → (∀ x, x ∈ l ↔ x ∈ m) → l = m
  | [], [], _, _, _ => rfl
  | [], y :: m, _, _, h => nomatch (h y).mpr List.mem_cons_self
  | x :: l, [], _, _, h => nomatch (h x).mp List.mem_cons_self
  | x :: l, y :: m, hl, hm, h => by
    obtain ⟨l1, l2⟩ := List.pairwise_cons.mp hl
    obtain ⟨m1, m2⟩ := List.pairwise_cons.mp hm
    have e : x = y := by
      rcases List.mem_cons.mp ((h x).mp List.mem_cons_self) with z | z
      · exact z
      · rcases List.mem_cons.mp ((h y).mpr List.mem_cons_self) with w | w
        · exact w.symm
        · have a1 := m1 x z
          have a2 := l1 y w
          omega
    subst e
    rw [pairs_ext l2 m2 fun u => ?_]
    constructor
    · intro hu
      rcases List.mem_cons.mp ((h u).mp (List.mem_cons_of_mem _ hu)) with z | z
      · have := l1 u hu
        rw [z] at this
        omega
      · exact z
    · intro hu
      rcases List.mem_cons.mp ((h u).mpr (List.mem_cons_of_mem _ hu)) with z | z
      · have := m1 u hu
        rw [z] at this
        omega
      · exact z
theorem ps_eq {H : Hp} {a : Addr} {B N l : Nat} {t : PF} {kvs : List (Key × V)} {ps : List (Int × Int)} (ha : H a = some (.dK kvs)) (d : DI H a B N t l) (pm : (ps.map fun p => ((Sum.inl p.1 : Key), V.int p.2)).Perm kvs) (srt : ps.Pairwise (fun p q => p.1 ≤ q.1)) : ps = psOf B t := by
  obtain ⟨kvs', h1, _, h3, h4, h5⟩ := id d
  rw [ha] at h1
  cases h1
  have nd : (ps.map fun p => (Sum.inl p.1 : Key)).Nodup := by
    have := (pm.map (·.1)).nodup_iff.mpr h4
    rw [List.map_map] at this
    exact this
  have strict : ps.Pairwise (fun p q => p.1 < q.1) := by
    have nd' : ps.Pairwise (fun p q => p.1 ≠ q.1) := by
      rw [List.Nodup, List.pairwise_map] at nd
      exact nd.imp fun {p q} z e => z (by rw [e])
    exact (srt.and nd').imp fun {p q} z => by
      obtain ⟨z1, z2⟩ := z
      omega
  have asc2 : (psOf B t).Pairwise (fun p q => p.1 < q.1) := by
    have := psOf_asc B t
    rwa [List.pairwise_map] at this
  refine pairs_ext strict asc2 fun p => ?_
  rw [mem_psOf]
  constructor
  · intro hp
    have hk : ((Sum.inl p.1 : Key), V.int p.2) ∈ kvs := pm.mem_iff.mp (List.mem_map.mpr ⟨p, hp, rfl⟩)
    have v := mem_valV h4 hk
    rw [h5 p.1] at v
    obtain ⟨m, hm, e⟩ := Option.map_eq_some_iff.mp v
    cases e
    exact ⟨(d.rng hm).1, hm⟩
  · rintro ⟨_, hm⟩
    have v := h5 p.1
    rw [hm] at v
    obtain ⟨p', hp', e⟩ := List.mem_map.mp (pm.mem_iff.mpr (valV_mem v))
    have e1 : p'.1 = p.1 := by injection e with e1 e2; injection e1
    have e2 : p'.2 = p.2 := by injection e with e1 e2; injection e2
    rw [← Prod.ext e1 e2]
    exact hp'
theorem FitsAt.rowsF {H : Hp} {q : Addr} {L M : List Bar} {e : Int} (lM : M.length ≤ 20) (h : FitsAt H q L M e) : RowsF H q (fitF L M e) L.length M.length := by
  obtain ⟨rs, h1, h2⟩ := h
  refine ⟨rs, h1, Paired.length h2, fun i r hr => ?_, fun b n hn => ?_, fun b => ?_⟩
  · obtain ⟨b, hb, z⟩ := L2.paired_get h2 hr
    unfold fitF
    rw [if_pos (Int.natCast_nonneg i)]
    have e1 : ((i : Int)).toNat = i := rfl
    rw [e1, hb]
    exact z
  · obtain ⟨i, j, x, y, rfl, rfl, hx, hy, hf⟩ := mem_fitF.mp hn
    have := (List.getElem?_eq_some_iff.mp hy).1
    omega
  · unfold fitF
    by_cases hb : 0 ≤ b
    · rw [if_pos hb]
      cases hx : L[b.toNat]? with
      | none => exact Nat.zero_le _
      | some x =>
        have := fitIx_len x M e M.length
        show (fitIx x M e M.length).length ≤ 60
        omega
    · rw [if_neg hb]
      exact Nat.zero_le _
theorem longA_any {L : List Bar} {e : Int} (b : Int) : longA L e b = (longN L e).any fun y => y == b := by
  unfold longA
  rw [Bool.eq_iff_iff, decide_eq_true_eq, List.any_eq_true]
  constructor
  · intro h
    exact ⟨b, h, beq_self_eq_true b⟩
  · rintro ⟨y, hy, e⟩
    rw [← beq_iff_eq.mp e]
    exact hy
theorem KeepD.toExt {tk hd : Addr} {H J L : Hp} (e : Ext H J) (nt : H tk = none) (nh : H hd = none) (k : KeepD tk hd J L) : Ext H L := fun b o hb => k b o (ne_of_none hb nt) (ne_of_none hb nh) (e b o hb)
theorem KeepD.swap {tk hd : Addr} {H J : Hp} (k : KeepD tk hd H J) : KeepD hd tk H J := fun b o n m h => k b o m n h
section
variable {P : Program} {w : World} {K : PySem.W.Frag} {mg : Str → Option Value} {base : Heap}
abbrev allN : List Str := ["longs", "fits", "taken", "holders", "start", "lot"]
theorem scAll : FnScope allN ["longs", "fits", "taken", "holders"] (defScope sAll) := ⟨rfl, rfl, rfl, by decide +kernel, rfl, by decide +kernel, by decide +kernel⟩
theorem ok_all {f : Addr} {fd : FuncData} (F : L2.Fun K "place_all" "place_all" sAll f fd) (cP : Cal P w K mg base 2 "place_bar" spPlace []) : FnOk P w K mg base CX0 3 f fd ["longs", "fits", "taken", "holders"] spAll := by
  refine F.ok scAll (fun vs H Q E h => ?_) (fun cdv A outer s H vs Q E hr h => ?_)
  · obtain ⟨ln, fi, tk, hd, ls, B, N, Fr, Lo, t, h, lt, lh, R, rfl, _⟩ := h
    rfl
  · obtain ⟨ln, fi, tk, hd, ls, B, N, Fr, Lo, t, h, lt, lh, R, rfl, lB, lN, nth, rng, hl, isLo, rows, dt, dh, ar, k⟩ := h
    have hu1 := hu_of hr
    refine ⟨_, pss_cons (ps_for PassesOwn.never rfl (pi_list (pv 0)) (pg_name (i := 4) scAll.nd rfl (Or.inl rfl))
      (pss_one (ps_if (pt_cmp (pc_dnotin hu1 (pv 4) (pv 2)) (by rfl)) (pss_cons (ps_set (i := 5) scAll.nd rfl (Or.inl rfl) (C8.pe_c cP hr (by decide) (by rfl) (pa_cons (pv 4) (pa_cons (pv 0) (pa_cons (pv 1) (pa_cons (pv 2) (pa_cons (pv 3) pa_nil)))))))
      (pss_one (ps_if (pt_cmpR op_notN (pv 5) pe_non (nomark _)) (pss_one (ps_ret (pv 5))) pss_nil))) pss_nil)))
      (pss_one (ps_ret pe_non)), ?_⟩
    have lstK : ∀ {J : Hp} {q : Addr} {xs : List V}, KeepD tk hd H J → H q = some (.lst xs) → J q = some (.lst xs) := fun kj hq => kj _ _ (fun z => by obtain ⟨kv, e, _⟩ := dt; rw [z, e] at hq; cases hq) (fun z => by obtain ⟨kv, e, _⟩ := dh; rw [z, e] at hq; cases hq) hq
    refine ⟨_, rfl, ln, rfl, ⟨_, SqL.of hl⟩, ?_⟩
    refine for_it walk_list (fun i σ' J => ∃ (t h : PF) (lt lh : Nat) (v4 v5 : Option V), σ' = [some (.ref ln), some (.ref fi), some (.ref tk), some (.ref hd), v4, v5] ∧ KeepD tk hd H J ∧ DI J tk B N t lt ∧ DI J hd N B h lh ∧ AllR Fr Lo (ls.drop i) t h R)
      ⟨t, h, lt, lh, _, _, rfl, KeepD.refl, dt, dh, by rw [List.drop_zero]; exact ar⟩ (fun i σ' J _ ⟨_, _, _, _, _, _, _, kj, _⟩ => SqL.of (lstK kj hl)) ?_ ?_
    · rintro i y σ' J J' hi ⟨t1, h1, lt1, lh1, v4, v5, rfl, kp, dt1, dh1, ar⟩ ⟨rfl, hy⟩
      obtain ⟨q, hq, rfl⟩ : ∃ q, ls[i]? = some q ∧ y = .int q := by
        rw [List.getElem?_map] at hy
        cases e : ls[i]? with
        | none => rw [e] at hy; cases hy
        | some q => rw [e] at hy; cases hy; exact ⟨q, rfl, rfl⟩
      have qB := rng q (List.mem_of_getElem? hq)
      obtain ⟨hi', eq⟩ := List.getElem?_eq_some_iff.mp hq
      rw [List.drop_eq_getElem_cons hi', eq] at ar
      refine ⟨_, rfl, _, rfl, tk, _, rfl, dt1.get q, _, rfl, ?_⟩
      cases ar with
      | skip e a =>
        rw [e]
        exact iteF ⟨t1, h1, lt1, lh1, _, _, rfl, kp, dt1, dh1, a⟩
      | fail e pr =>
        rw [e]
        refine iteT ⟨_, rfl, _, rfl, _, rfl, _, rfl, _, rfl, ln, fi, tk, hd, q, ls, B, N, Fr, Lo, t1, h1, lt1, lh1, _, rfl, lB, lN, nth, qB, lstK kp hl, isLo, rows.keep kp dt dh, dt1, dh1, pr, fun p J2 x2 hp => ?_⟩
        exact ⟨_, rfl, rfl, _, rfl, iteT ⟨_, rfl, k p J2 (kp.ext x2) hp⟩⟩
      | step e pr a =>
        rw [e]
        refine iteT ⟨_, rfl, _, rfl, _, rfl, _, rfl, _, rfl, ln, fi, tk, hd, q, ls, B, N, Fr, Lo, t1, h1, lt1, lh1, _, rfl, lB, lN, nth, qB, lstK kp hl, isLo, rows.keep kp dt dh, dt1, dh1, pr, fun lt2 lh2 J2 dt2 dh2 kp2 => ?_⟩
        exact ⟨_, rfl, rfl, _, rfl, iteF ⟨_, _, lt2, lh2, _, _, rfl, kp.trans kp2, dt2, dh2, a⟩⟩
    · rintro σ' J ⟨t1, h1, lt1, lh1, v4, v5, rfl, kp, dt1, dh1, ar⟩
      rw [List.length_map, List.drop_length] at ar
      cases ar
      exact k lt1 lh1 J dt1 dh1 kp
abbrev pobN : List Str := ["one", "other", "e", "taken", "holders", "lot"]
theorem scPob : FnScope pobN ["one", "other", "e"] (defScope sPob) := ⟨rfl, rfl, rfl, by decide +kernel, rfl, by decide +kernel, by decide +kernel⟩
theorem ok_pob {f : Addr} {fd : FuncData} (F : L2.Fun K "paired_or_banned" "paired_or_banned" sPob f fd) (T : Gb mg) (cA : Cal P w K mg base 3 "place_all" spAll []) (cL : Cal P w K mg base 2 "long_numbers" spLong []) (cF : Cal P w K mg base 2 "fitting" spFitting []) : FnOk P w K mg base CX0 4 f fd ["one", "other", "e"] spPob := by
  refine F.ok scPob (fun vs H Q E h => ?_) (fun cdv A outer s H vs Q E hr h => ?_)
  · obtain ⟨o1, o2, L, M, e, r, rfl, _⟩ := h
    rfl
  · obtain ⟨o1, o2, L, M, e, r, rfl, b1, b2, lL, lM, pr, k⟩ := h
    refine ⟨_, pss_cons (ps_set (i := 3) scPob.nd rfl (Or.inl rfl) pe_dnewK)
      (pss_cons (ps_set (i := 4) scPob.nd rfl (Or.inl rfl) pe_dnewK)
      (pss_cons (ps_set (i := 5) scPob.nd rfl (Or.inl rfl) (C8.pe_c cA hr (by decide) (by rfl) (pa_cons (C8.pe_c cL hr (by decide) (by rfl) (pa_cons (pv 0) (pa_cons (pv 2) pa_nil))) (pa_cons (C8.pe_c cF hr (by decide) (by rfl) (pa_cons (pv 0) (pa_cons (pv 1) (pa_cons (pv 2) pa_nil)))) (pa_cons (pv 3) (pa_cons (pv 4) pa_nil))))))
      (pss_cons (ps_if (pt_cmpR op_notN (pv 5) pe_non (nomark _)) (pss_one (ps_ret (pe_tup (pa_cons pe_non (pa_cons (pe_tup (pa_cons pe_int (pa_cons (pv 5) pa_nil))) pa_nil))))) pss_nil)
      (pss_cons (ps_set (i := 5) scPob.nd rfl (Or.inl rfl) (C8.pe_c cA hr (by decide) (by rfl) (pa_cons (C8.pe_c cL hr (by decide) (by rfl) (pa_cons (pv 1) (pa_cons (pv 2) pa_nil))) (pa_cons (C8.pe_c cF hr (by decide) (by rfl) (pa_cons (pv 1) (pa_cons (pv 0) (pa_cons (pv 2) pa_nil)))) (pa_cons (pv 4) (pa_cons (pv 3) pa_nil))))))
      (pss_cons (ps_if (pt_cmpR op_notN (pv 5) pe_non (nomark _)) (pss_one (ps_ret (pe_tup (pa_cons pe_non (pa_cons (pe_tup (pa_cons pe_int (pa_cons (pv 5) pa_nil))) pa_nil))))) pss_nil)
      (pss_one (ps_ret (pe_tup (pa_cons (pe_callTy call_tuple_of (by rfl) T.tup (by decide +kernel) (pa_cons (pe_callB (cr_sortO rfl) (by rfl) T.sorted (by decide +kernel) (pa_cons (pe_bm0 PySem.F.plainAttrs_dict PySem.F.slot_dict_items PySem.F.type_dict_items mt_itemsK (pv 3)) pa_nil)) pa_nil)) (pa_cons pe_non pa_nil)))))))))), ?_⟩
    have long : ∀ (L : List Bar) (i : Int), i ∈ longN L e → 0 ≤ i ∧ i < (L.length : Int) := fun L i hi => by
      obtain ⟨n, b, rfl, hn, _⟩ := mem_longN.mp hi
      have := (List.getElem?_eq_some_iff.mp hn).1
      omega
    intro tk ntk hd nhd
    have x2 := (Ext.upd (o := .dK []) ntk).trans (Ext.upd (o := .dK []) nhd)
    have nth : tk ≠ hd := fun z => by rw [← z, upd_same] at nhd; cases nhd
    have Hhd : H hd = none := none_back (Ext.upd ntk) nhd
    have dt0 : DI (upd (upd H tk (.dK [])) hd (.dK [])) tk L.length M.length noF 0 := DI.frame (upd_ne nth) DI.new
    have dh0 : DI (upd (upd H tk (.dK [])) hd (.dK [])) hd M.length L.length noF 0 := DI.new
    generalize upd (upd H tk (.dK [])) hd (.dK []) = H2 at *
    refine ⟨_, rfl, _, rfl, o1, L, e, rfl, b1.ext x2, by omega, fun l1 H3 x3 hl1 => ?_⟩
    refine ⟨_, rfl, _, rfl, _, rfl, o1, o2, L, M, e, rfl, (b1.ext x2).ext x3, (b2.ext x2).ext x3, by omega, by omega, fun q1 H4 x4 f1 => ?_⟩
    have fr4 : ∀ {a : Addr} {m n l : Nat} {g : PF}, DI H2 a m n g l → DI H4 a m n g l := fun {a m n l g} d => by
      obtain ⟨kv, ekv, _⟩ := id d
      exact d.frame ((((x3.trans x4) _ _ ekv)).trans ekv.symm)
    have lot : ∀ (s : Int) (as : List Int) (p : Addr) (J : Hp), r = .inr (s, as) → Ext H J → J p = some (.tup ((sortL as).map V.int)) → ∀ (t1 t2 : Addr), J t1 = none → (upd J t1 (.tup [.int s, .ref p])) t2 = none → Q (.ref t2) (upd (upd J t1 (.tup [.int s, .ref p])) t2 (.tup [.non, .ref t1])) := fun s as p J er xJ hp t1 t2 n1 n2 => by
      have y1 := Ext.upd (o := .tup [.int s, .ref p]) n1
      have y2 := Ext.upd (o := .tup [.non, .ref t1]) n2
      subst er
      exact k t2 .non (.ref t1) _ (xJ.trans (y1.trans y2)) upd_same ⟨rfl, t1, rfl, p, y2 _ _ upd_same, y2 _ _ (y1 _ _ hp)⟩
    have a1 : ∃ R, AllR (fitF L M e) (longA L e) (longN L e) noF noF R ∧ ((∃ as t h, R = (some as, t, h) ∧ r = .inr (0, as)) ∨ ∃ t h R2, R = (none, t, h) ∧ AllR (fitF M L e) (longA M e) (longN M e) h t R2 ∧ ((∃ as h' t', R2 = (some as, h', t') ∧ r = .inr (1, as)) ∨ ∃ h' t', R2 = (none, h', t') ∧ r = .inl t')) := by
      cases pr with
      | lot0 a => exact ⟨_, a, .inl ⟨_, _, _, rfl, rfl⟩⟩
      | lot1 a b => exact ⟨_, a, .inr ⟨_, _, _, rfl, b, .inl ⟨_, _, _, rfl, rfl⟩⟩⟩
      | pairs a b => exact ⟨_, a, .inr ⟨_, _, _, rfl, b, .inr ⟨_, _, rfl, rfl⟩⟩⟩
    obtain ⟨R, ar, out⟩ := a1
    refine ⟨_, rfl, _, rfl, l1, q1, tk, hd, longN L e, L.length, M.length, fitF L M e, longA L e, noF, noF, _, _, R, rfl, by omega, by omega, nth, long L, x4 _ _ hl1, longA_any, f1.rowsF lM, fr4 dt0, fr4 dh0, ar, ?_⟩
    rcases out with ⟨as, t, h, rfl, er⟩ | ⟨t1, h1, R2, rfl, ar2, out⟩
    · intro p H5 kp1 hp
      refine ⟨_, rfl, rfl, _, rfl, ?_⟩
      refine iteT ⟨_, rfl, by show 2 ≤ sizeLine; decide, fun t1 n1 => ⟨by show 2 ≤ sizeLine; decide, fun t2 n2 => ?_⟩⟩
      exact lot 0 as p H5 er (kp1.toExt (x2.trans (x3.trans x4)) ntk Hhd) hp t1 t2 n1 n2
    intro lt1 lh1 H5 dt1 dh1 kp1
    have x5 : Ext H H5 := kp1.toExt (x2.trans (x3.trans x4)) ntk Hhd
    refine ⟨_, rfl, rfl, _, rfl, ?_⟩
    refine iteF ⟨_, rfl, _, rfl, o2, M, e, rfl, b2.ext x5, by omega, fun l2 H6 x6 hl2 => ?_⟩
    refine ⟨_, rfl, _, rfl, _, rfl, o2, o1, M, L, e, rfl, (b2.ext x5).ext x6, (b1.ext x5).ext x6, by omega, by omega, fun q2 H7 x7 f2 => ?_⟩
    have fr7 : ∀ {a : Addr} {m n l : Nat} {g : PF}, DI H5 a m n g l → DI H7 a m n g l := fun {a m n l g} d => by
      obtain ⟨kv, ekv, _⟩ := id d
      exact d.frame ((((x6.trans x7) _ _ ekv)).trans ekv.symm)
    refine ⟨_, rfl, _, rfl, l2, q2, hd, tk, longN M e, M.length, L.length, fitF M L e, longA M e, h1, t1, _, _, R2, rfl, by omega, by omega, nth.symm, long M, x7 _ _ hl2, longA_any, f2.rowsF lL, fr7 dh1, fr7 dt1, ar2, ?_⟩
    rcases out with ⟨as, h', t', rfl, er⟩ | ⟨h', t', rfl, er⟩
    · intro p H8 kp2 hp
      refine ⟨_, rfl, rfl, _, rfl, ?_⟩
      refine iteT ⟨_, rfl, by show 2 ≤ sizeLine; decide, fun t1 n1 => ⟨by show 2 ≤ sizeLine; decide, fun t2 n2 => ?_⟩⟩
      exact lot 1 as p H8 er (kp2.toExt (x5.trans (x6.trans x7)) Hhd ntk) hp t1 t2 n1 n2
    intro lh2 lt2 H8 dh2 dt2 kp2
    have x8 : Ext H H8 := kp2.toExt (x5.trans (x6.trans x7)) Hhd ntk
    refine ⟨_, rfl, rfl, _, rfl, ?_⟩
    refine iteF ?_
    obtain ⟨kvs, ek, lk, ik, _⟩ := id dt2
    have lk60 : kvs.length ≤ 1000 := by
      have := dt2.len
      omega
    refine ⟨_, rfl, .inr (.inr (.inl ⟨rfl, .inl ⟨kvs, ek⟩⟩)), tk, kvs, rfl, rfl, ek, fun vi nvi => ?_⟩
    have xv := Ext.upd (o := DX.itemsO vi tk) nvi
    refine ⟨vi, tk, kvs, rfl, upd_same, xv _ _ ek, lk60, fun kv hkv => let ⟨i, j, z, _⟩ := ik kv hkv; ⟨i, j, z⟩, fun l bs ps H9 x9 hl9 pbs pm srt => ?_⟩
    have eps := ps_eq ek dt2 pm srt
    subst eps
    refine ⟨l, _, rfl, .inl ⟨SqL.of hl9, fun t2 nt2 => ?_⟩⟩
    refine ⟨by show 2 ≤ sizeLine; decide, fun t3 nt3 => ?_⟩
    have y2 := Ext.upd (o := .tup (bs.map V.ref)) nt2
    have y3 := Ext.upd (o := .tup [V.ref t2, V.non]) nt3
    subst er
    exact k t3 (.ref t2) .non _ (x8.trans (xv.trans (x9.trans (y2.trans y3)))) upd_same ⟨rfl, t2, rfl, bs, y3 _ _ upd_same, Paired.imp' (fun _ _ z => y3 _ _ (y2 _ _ z)) pbs⟩
/-- pairing and ban of right lists: the one answer, or the other -/
def spTold (n : Nat) : Sp := fun vs H Q _ => ∃ (o1 o2 : Addr) (L M : List Bar) (e : Int) (r : PF ⊕ (Int × List Int)), vs = [.ref o1, .ref o2, .int e] ∧ BS H o1 L ∧ BS H o2 M ∧ Right L ∧ Right M ∧ 0 ≤ e ∧ e ≤ 2000 ∧ PobR L M e r ∧ ∀ (x y : V) (H' : Hp), Ext H H' → Told L.length H' x y r → Q (if n = 0 then x else y) H'
theorem scPair : FnScope ["one", "other", "e"] ["one", "other", "e"] (defScope sPairing) := ⟨rfl, rfl, rfl, by decide +kernel, rfl, by decide +kernel, by decide +kernel⟩
theorem ok_pairing {f fD NB NN : Addr} {fd fdD : FuncData} (F : L2.Fun K "pairing" "pairing" sPairing f fd)
    (FD : FnOk P w K mg base (L2.CX P w) 5 fD fdD ["one", "other", "e"] (spDem2 K NB NN)) (mD : mg "demand_both" = some (.ref fD)) (kD : PySem.W.keepIn K (.ref fD) = true) (bD : Binds K fdD ["one", "other", "e"] [])
    (cP : Cal P w K mg base 4 "paired_or_banned" spPob []) : FnOk P w K mg base (L2.CX P w) 6 f fd ["one", "other", "e"] (spTold 0) := by
  refine F.okX scPair (fun vs H Q E h => ?_) (fun cdv A outer s H vs Q E hr h => ?_)
  · obtain ⟨o1, o2, L, M, e, r, rfl, _⟩ := h
    rfl
  · obtain ⟨o1, o2, L, M, e, r, rfl, b1, b2, rL, rM, e0, e1, pr, k⟩ := h
    obtain ⟨d1, p1, a1⟩ := pd_bars b1 rL
    obtain ⟨d2, p2, a2⟩ := pd_bars b2 rM
    refine ⟨_, pss_cons (ps_expr (pe_call FD (hr.mono (by decide)) (by rfl) mD kD bD .nil (passes_call (takes_of rfl rfl rfl rfl) (fun _ _ _ _ h => h)) (pa_cons (pv 0) (pa_cons (pv 1) (pa_cons (pv 2) pa_nil)))))
      (pss_one (ps_ret (pe_ix ix_tup (C8.pe_c cP hr (by decide) (by rfl) (pa_cons (pv 0) (pa_cons (pv 1) (pa_cons (pv 2) pa_nil)))) pe_int (fun _ _ => rfl)))), ?_⟩
    refine ⟨_, rfl, _, rfl, _, rfl, .ref o1, .ref o2, .int e, d1, d2, rfl, p1, p2, Th.int e, (fun z => by rw [a1, a2] at z; cases z), (fun _ z => by rw [numV_true.mpr ⟨e, rfl, e0, e1⟩] at z; cases z), fun _ _ H1 x1 => ?_⟩
    refine ⟨_, rfl, _, rfl, _, rfl, o1, o2, L, M, e, r, rfl, b1.ext x1, b2.ext x1, rL.1, rM.1, pr, fun p v u H2 x2 hp td => ?_⟩
    exact ⟨p, _, _, _, rfl, rfl, SqT.of hp, rfl, k v u H2 (x1.trans x2) td⟩
theorem scBan : FnScope ["one", "other", "e"] ["one", "other", "e"] (defScope sBan) := ⟨rfl, rfl, rfl, by decide +kernel, rfl, by decide +kernel, by decide +kernel⟩
theorem ok_ban {f fD NB NN : Addr} {fd fdD : FuncData} (F : L2.Fun K "ban" "ban" sBan f fd)
    (FD : FnOk P w K mg base (L2.CX P w) 5 fD fdD ["one", "other", "e"] (spDem2 K NB NN)) (mD : mg "demand_both" = some (.ref fD)) (kD : PySem.W.keepIn K (.ref fD) = true) (bD : Binds K fdD ["one", "other", "e"] [])
    (cP : Cal P w K mg base 4 "paired_or_banned" spPob []) : FnOk P w K mg base (L2.CX P w) 6 f fd ["one", "other", "e"] (spTold 1) := by
  refine F.okX scBan (fun vs H Q E h => ?_) (fun cdv A outer s H vs Q E hr h => ?_)
  · obtain ⟨o1, o2, L, M, e, r, rfl, _⟩ := h
    rfl
  · obtain ⟨o1, o2, L, M, e, r, rfl, b1, b2, rL, rM, e0, e1, pr, k⟩ := h
    obtain ⟨d1, p1, a1⟩ := pd_bars b1 rL
    obtain ⟨d2, p2, a2⟩ := pd_bars b2 rM
    refine ⟨_, pss_cons (ps_expr (pe_call FD (hr.mono (by decide)) (by rfl) mD kD bD .nil (passes_call (takes_of rfl rfl rfl rfl) (fun _ _ _ _ h => h)) (pa_cons (pv 0) (pa_cons (pv 1) (pa_cons (pv 2) pa_nil)))))
      (pss_one (ps_ret (pe_ix ix_tup (C8.pe_c cP hr (by decide) (by rfl) (pa_cons (pv 0) (pa_cons (pv 1) (pa_cons (pv 2) pa_nil)))) pe_int (fun _ _ => rfl)))), ?_⟩
    refine ⟨_, rfl, _, rfl, _, rfl, .ref o1, .ref o2, .int e, d1, d2, rfl, p1, p2, Th.int e, (fun z => by rw [a1, a2] at z; cases z), (fun _ z => by rw [numV_true.mpr ⟨e, rfl, e0, e1⟩] at z; cases z), fun _ _ H1 x1 => ?_⟩
    refine ⟨_, rfl, _, rfl, _, rfl, o1, o2, L, M, e, r, rfl, b1.ext x1, b2.ext x1, rL.1, rM.1, pr, fun p v u H2 x2 hp td => ?_⟩
    exact ⟨p, _, _, _, rfl, rfl, SqT.of hp, rfl, k v u H2 (x1.trans x2) td⟩
end
end E47

set_option Elab.async false
set_option linter.all false
set_option maxRecDepth 100000
set_option maxHeartbeats 4000000
set_option pp.maxSteps 100
/-! The law's own words: fits, is long. -/
namespace E47.J
open PySem L2
abbrev sFits : Stmt := top 30
abbrev sIsLong : Stmt := top 31
def BL (S : Hp) (o : Addr) (L : List Bar) : Prop := ∃ as : List Addr, S o = some (.lst (as.map V.ref)) ∧ BT S as L
theorem BL.ext {S S' : Hp} {o : Addr} {L : List Bar} (e : Ext S S') (h : BL S o L) : BL S' o L := let ⟨as, h1, h2⟩ := h; ⟨as, e _ _ h1, h2.mono fun _ _ z => e _ _ z⟩
theorem BL.bs {S : Hp} {o : Addr} {L : List Bar} (h : BL S o L) : BS S o L := let ⟨as, h1, h2⟩ := h; ⟨as, .inl h1, h2⟩
def spIsLong : Sp := fun vs H Q _ => ∃ (a : Addr) (x : Bar) (e : Int), vs = [.ref a, .int e] ∧ H a = some (.tup (barL x)) ∧ Q (.bl (!shortB x e)) H
section
variable {P : Program} {w : World} {K : PySem.W.Frag} {mg : Str → Option Value} {base : Heap}
theorem scFits : FnScope ["_law_bar", "_law_other", "_law_e"] ["_law_bar", "_law_other", "_law_e"] (defScope sFits) := ⟨rfl, rfl, rfl, by decide +kernel, rfl, by decide +kernel, by decide +kernel⟩
theorem scIsL : FnScope ["_law_bar", "_law_e"] ["_law_bar", "_law_e"] (defScope sIsLong) := ⟨rfl, rfl, rfl, by decide +kernel, rfl, by decide +kernel, by decide +kernel⟩
theorem ok_fits {f : Addr} {fd : FuncData} (F : L2.Fun K "_law_fits" "_law_fits" sFits f fd) (T : Gb mg) : FnOk P w K mg base CX0 1 f fd ["_law_bar", "_law_other", "_law_e"] spFit := by
  refine F.ok scFits (fun vs H Q E h => ?_) (fun cdv A outer s H vs Q E hr h => ?_)
  · obtain ⟨a, b, x, y, e, rfl, _⟩ := h
    rfl
  · obtain ⟨a, b, x, y, e, rfl, ha, hb, k⟩ := h
    refine ⟨_, pss_cons (ps_if (pt_cmpR op_gt (pe_callB call_abs (by rfl) T.abs (by decide +kernel) (pa_cons (pe_op op_sub (pe_ix ix_tup (pv 0) pe_int (fun _ _ => rfl)) (pe_ix ix_tup (pv 1) pe_int (fun _ _ => rfl))) pa_nil)) (pv 2) (nomark _)) (pss_one (ps_ret pe_bl)) pss_nil)
      (pss_cons (ps_if (PW.pt (pw_or (pt_cmpR op_isN (pe_ix ix_tup (pv 0) pe_int (fun _ _ => rfl)) pe_non (nomark _)) (pw_or1 (pt_cmpR op_isN (pe_ix ix_tup (pv 1) pe_int (fun _ _ => rfl)) pe_non (nomark _))))) (pss_one (ps_ret (pe_and (pe_cmpR op_isN (pe_ix ix_tup (pv 0) pe_int (fun _ _ => rfl)) pe_non (nomark _)) (pe_one (pe_cmpR op_isN (pe_ix ix_tup (pv 1) pe_int (fun _ _ => rfl)) pe_non (nomark _)))))) pss_nil)
      (pss_one (ps_ret (pe_cmpR op_le (pe_callB call_abs (by rfl) T.abs (by decide +kernel) (pa_cons (pe_op op_sub (pe_ix ix_tup (pv 0) pe_int (fun _ _ => rfl)) (pe_ix ix_tup (pv 1) pe_int (fun _ _ => rfl))) pa_nil)) (pv 2) (nomark _))))), ?_⟩
    obtain ⟨b1, b2⟩ := x
    obtain ⟨c1, c2⟩ := y
    refine ⟨_, rfl, _, _, _, _, rfl, rfl, SqT.of ha, rfl, _, rfl, _, _, _, _, rfl, rfl, SqT.of hb, rfl, _, _, rfl, rfl, _, rfl, _, rfl, _, _, rfl, rfl, _, rfl, ?_⟩
    unfold fitB at k
    refine ite2 (fun q => ?_) (fun q => ?_)
    · rw [if_pos (of_decide_eq_true q)] at k
      exact k
    · rw [if_neg (fun z => q (decide_eq_true z))] at k
      cases b2 with
      | none =>
        refine ⟨_, rfl, _, _, _, _, rfl, rfl, SqT.of ha, rfl, rfl, _, rfl, iteT (iteT ?_)⟩
        refine ⟨_, rfl, _, _, _, _, rfl, rfl, SqT.of ha, rfl, rfl, _, rfl, iteT ?_⟩
        cases c2 with
        | none => exact ⟨_, rfl, _, _, _, _, rfl, rfl, SqT.of hb, rfl, rfl, k⟩
        | some h => exact ⟨_, rfl, _, _, _, _, rfl, rfl, SqT.of hb, rfl, rfl, k⟩
      | some g =>
        refine ⟨_, rfl, _, _, _, _, rfl, rfl, SqT.of ha, rfl, rfl, _, rfl, iteF ?_⟩
        cases c2 with
        | none =>
          refine ⟨_, rfl, _, _, _, _, rfl, rfl, SqT.of hb, rfl, rfl, _, rfl, iteT ?_⟩
          exact ⟨_, rfl, _, _, _, _, rfl, rfl, SqT.of ha, rfl, rfl, _, rfl, iteF k⟩
        | some h =>
          refine ⟨_, rfl, _, _, _, _, rfl, rfl, SqT.of hb, rfl, rfl, _, rfl, iteF ?_⟩
          exact ⟨_, rfl, _, _, _, _, rfl, rfl, SqT.of ha, rfl, _, rfl, _, _, _, _, rfl, rfl, SqT.of hb, rfl, _, _, rfl, rfl, _, rfl, _, rfl, _, _, rfl, rfl, k⟩
theorem scShort : FnScope ["bar", "e"] ["bar", "e"] (defScope sShort) := ⟨rfl, rfl, rfl, by decide +kernel, rfl, by decide +kernel, by decide +kernel⟩
theorem ok_isLong {f : Addr} {fd : FuncData} (F : L2.Fun K "_law_is_long" "_law_is_long" sIsLong f fd) : FnOk P w K mg base CX0 1 f fd ["_law_bar", "_law_e"] spIsLong := by
  refine F.ok scIsL (fun vs H Q E h => ?_) (fun cdv A outer s H vs Q E hr h => ?_)
  · obtain ⟨a, x, e, rfl, _⟩ := h
    rfl
  · obtain ⟨a, x, e, rfl, ha, k⟩ := h
    refine ⟨_, pss_one (ps_ret (pe_or (pe_cmpR op_isN (pe_ix ix_tup (pv 0) pe_int (fun _ _ => rfl)) pe_non (nomark _)) (pe_one (pe_cmpR op_gt (pe_op op_sub (pe_ix ix_tup (pv 0) pe_int (fun _ _ => rfl)) (pe_ix ix_tup (pv 0) pe_int (fun _ _ => rfl))) (pe_op op_mul pe_int (pv 1)) (nomark _))))), ?_⟩
    obtain ⟨b1, b2⟩ := x
    cases b2 with
    | none => exact ⟨_, rfl, _, _, _, _, rfl, rfl, SqT.of ha, rfl, rfl, _, rfl, iteT k⟩
    | some g =>
      refine ⟨_, rfl, _, _, _, _, rfl, rfl, SqT.of ha, rfl, rfl, _, rfl, iteF ?_⟩
      refine ⟨_, rfl, _, _, _, _, rfl, rfl, SqT.of ha, rfl, _, rfl, _, _, _, _, rfl, rfl, SqT.of ha, rfl, _, _, rfl, rfl, _, rfl, _, _, rfl, rfl, .inl ⟨by decide, by decide⟩, _, _, rfl, rfl, ?_⟩
      have e1 : (!shortB (b1, some g) e) = decide (g - b1 > 2 * e) := by
        show (!decide (g - b1 ≤ 2 * e)) = _
        by_cases c : g - b1 ≤ 2 * e
        · rw [decide_eq_true c, decide_eq_false (by omega)]; rfl
        · rw [decide_eq_false c, decide_eq_true (by omega)]; rfl
      rw [e1] at k
      exact k
end
end E47.J

set_option Elab.async false
set_option linter.all false
set_option maxRecDepth 100000
set_option maxHeartbeats 4000000
set_option pp.maxSteps 60
/-! Bar lists drawn. -/
namespace E47.J
open PySem L2
abbrev sLBar : Stmt := top 36
abbrev sMoved : Stmt := top 37
abbrev sLists : Stmt := top 38
def spLBar : Sp := fun vs H Q _ => ∃ (r c : Addr) (w : Int), vs = [.ref r, .int w] ∧ BagAt H r c ∧ 1 ≤ w ∧ w ≤ 1000 ∧ ∀ (a : Addr) (b : Bar) (H' : Hp), Go r c H H' → H' a = some (.tup (barL b)) → okBar b → Q (.ref a) H'
def spMoved : Sp := fun vs H Q _ => ∃ (r c p : Addr) (x : Bar) (w : Int), vs = [.ref r, .ref p, .int w] ∧ BagAt H r c ∧ H p = some (.tup (barL x)) ∧ 1 ≤ w ∧ w ≤ 1000 ∧ ∀ (a : Addr) (b : Bar) (H' : Hp), Go r c H H' → H' a = some (.tup (barL b)) → okBar b → Q (.ref a) H'
def spLists : Sp := fun vs H Q _ => ∃ (r c : Addr) (w : Int) (m : Nat), vs = [.ref r, .int w, .int (m : Int)] ∧ BagAt H r c ∧ 1 ≤ w ∧ w ≤ 1000 ∧ m ≤ 20 ∧ ∀ (t o1 o2 : Addr) (L M : List Bar) (H' : Hp), Go r c H H' → H' t = some (.tup [.ref o1, .ref o2]) → BL (Off r c H') o1 L → BL (Off r c H') o2 M → L.length ≤ m → M.length ≤ m → (∀ b ∈ L, okBar b) → (∀ b ∈ M, okBar b) → Q (.ref t) H'
theorem _root_.E47.BT.off {r c : Addr} {H : Hp} (p : BagAt H r c) : ∀ {as : List Addr} {L : List Bar}, BT H as L → BT (Off r c H) as L
  | _, _, .nil => .nil
  | _, _, .cons h t => .cons (off_tup p h) (BT.off p t)
theorem _root_.E47.BT.go {r c : Addr} {H H' : Hp} (p : BagAt H r c) (g : Go r c H H') {as : List Addr} {L : List Bar} (h : BT H as L) : BT H' as L := Paired.imp' (fun _ _ z => g.tup p z) h
theorem _root_.E47.BT.ins {S : Hp} {a : Addr} {b : Bar} (h : S a = some (.tup (barL b))) : ∀ {as : List Addr} {L : List Bar} (n : Nat), BT S as L → BT S (as.take n ++ [a] ++ as.drop n) (L.take n ++ [b] ++ L.drop n)
  | _, _, 0, r => .cons h r
  | _, _, n + 1, .nil => .cons h .nil
  | _, _, n + 1, .cons x r => .cons x (BT.ins h n r)
theorem _root_.E47.TExt.bt {S S' : Hp} (e : TExt S S') {as : List Addr} {L : List Bar} (h : BT S as L) : BT S' as L := Paired.imp' (fun _ _ z => e _ _ z) h
theorem ins_mem {L : List Bar} {b x : Bar} {n : Nat} (h : x ∈ L.take n ++ [b] ++ L.drop n) : x = b ∨ x ∈ L := by
  rcases List.mem_append.mp h with h | h
  · rcases List.mem_append.mp h with h | h
    · exact .inr (List.mem_of_mem_take h)
    · exact .inl (List.mem_singleton.mp h)
  · exact .inr (List.mem_of_mem_drop h)
theorem ins_len {α : Type} {L : List α} {b : α} {n : Nat} : (L.take n ++ [b] ++ L.drop n).length = L.length + 1 := by
  simp only [List.length_append, List.length_take, List.length_drop, List.length_singleton]
  omega
section
variable {P : Program} {w : World} {K : PySem.W.Frag} {mg : Str → Option Value} {base : Heap}
theorem scLBar : FnScope ["_law_bag_here", "_law_wide", "_law_born"] ["_law_bag_here", "_law_wide"] (defScope sLBar) := ⟨rfl, rfl, rfl, by decide +kernel, rfl, by decide +kernel, by decide +kernel⟩
theorem ok_lbar {f : Addr} {fd : FuncData} (F : L2.Fun K "_law_bar" "_law_bar" sLBar f fd) (T : Gb mg) (cP : Cal P w K mg base 1 "_law_pick" spPick []) (cS : Cal P w K mg base 2 "_law_some" spSome []) : FnOk P w K mg base CX0 3 f fd ["_law_bag_here", "_law_wide"] spLBar := by
  refine F.ok scLBar (fun vs H Q E h => ?_) (fun cdv A outer s H vs Q E hr h => ?_)
  · obtain ⟨r, c, w, rfl, _⟩ := h
    rfl
  · obtain ⟨r, c, w, rfl, bag, w1, w2, k⟩ := h
    refine ⟨_, pss_cons (ps_set (i := 2) scLBar.nd rfl (Or.inl rfl) (pe_op op_sub (C8.pe_c cP hr (by decide) (by rfl) (pa_cons (pv 0) (pa_cons (pe_op op_add (pe_op op_mul pe_int (pv 1)) pe_int) pa_nil))) (pv 1)))
      (pss_cons (ps_if (PW.pt (pw_or (pt_cmpR op_eq (C8.pe_c cP hr (by decide) (by rfl) (pa_cons (pv 0) (pa_cons pe_int pa_nil))) pe_int (nomark _)) (pw_or1 (pt_cmpR op_eq (pv 2) (pv 1) (nomark _))))) (pss_one (ps_ret (pe_tup (pa_cons (pe_callB (call_min2 rfl) (by rfl) T.min (by decide +kernel) (pa_cons (pv 2) (pa_cons pe_int pa_nil))) (pa_cons pe_non pa_nil))))) pss_nil)
      (pss_one (ps_ret (pe_tup (pa_cons (pv 2) (pa_cons (pe_op op_add (pe_op op_add (pv 2) pe_int) (C8.pe_c cP hr (by decide) (by rfl) (pa_cons (pv 0) (pa_cons (pe_callB (call_min2 rfl) (by rfl) T.min (by decide +kernel) (pa_cons (pe_op op_sub (pv 1) (pv 2)) (pa_cons (pe_op op_add pe_int (C8.pe_c cS hr (by decide) (by rfl) (pa_cons (pv 0) (pa_cons (pe_lst (pa_cons pe_int (pa_cons pe_int (pa_cons (pe_op op_mul pe_int (pv 1)) pa_nil)))) pa_nil)))) pa_nil))) pa_nil)))) pa_nil)))))), ?_⟩
    refine ⟨_, rfl, _, rfl, _, _, rfl, rfl, .inl ⟨by decide, by decide⟩, _, _, rfl, rfl, r, c, _, rfl, bag, by omega, by omega, fun n H1 n0 n1 g1 => ?_⟩
    refine ⟨_, rfl, _, _, rfl, rfl, ?_⟩
    refine ⟨_, rfl, r, c, 4, rfl, g1.1, by decide, by decide, fun z H2 z0 z1 g2 => ?_⟩
    have g12 := g1.trans g2
    have fin : ∀ b : Bar, okBar b → ∀ (a : Addr), H2 a = none → Q (.ref a) (upd H2 a (.tup (barL b))) := fun b ok a na => k a b _ (g12.trans (Go.new g2.1 na)) upd_same ok
    have first : ∀ a : Addr, H2 a = none → Q (.ref a) (upd H2 a (.tup [.int (if 999 < n - w then 999 else n - w), .non])) := fun a na => fin (if 999 < n - w then 999 else n - w, none) ⟨by show -1000 ≤ (if 999 < n - w then 999 else n - w); split <;> omega, by show (if 999 < n - w then 999 else n - w) ≤ 1000; split <;> omega, fun g hg => nomatch hg⟩ a na
    refine ⟨rfl, _, rfl, ?_⟩
    refine ite2 (fun q => ?_) (fun q => ?_)
    · refine iteT ⟨_, rfl, _, _, rfl, by show 2 ≤ sizeLine; decide, fun a na => first a na⟩
    · refine ⟨_, rfl, _, rfl, rfl, _, rfl, ?_⟩
      refine ite2 (fun q2 => ?_) (fun q2 => ?_)
      · exact ⟨_, rfl, _, _, rfl, by show 2 ≤ sizeLine; decide, fun a na => first a na⟩
      · have nw : n - w ≠ w := fun e => q2 (by show decide (V.int (n - w) = V.int w) = true; rw [e]; exact decide_eq_true rfl)
        have bw : n - w < w := by omega
        refine ⟨_, rfl, _, rfl, _, _, rfl, rfl, _, rfl, _, rfl, _, rfl, _, _, rfl, rfl, _, rfl, _, rfl, _, _, rfl, rfl, .inl ⟨by decide, by decide⟩, by show 3 ≤ sizeLine; decide, fun l nl => ?_⟩
        have nla := g2.1.ne nl
        have gl := Go.new (o := .lst [.int 2, .int 6, .int (2 * w)]) g2.1 nl
        refine ⟨r, c, l, _, rfl, gl.1, nla.1, nla.2, upd_same, by simp, by show 3 ≤ 1000; decide, fun x H3 hx g3 => ?_⟩
        have hxi : ∃ i : Int, x = .int i ∧ 2 ≤ i ∧ i ≤ 2000 := by
          simp only [List.mem_cons, List.not_mem_nil, or_false] at hx
          rcases hx with rfl | rfl | rfl
          · exact ⟨_, rfl, by omega, by omega⟩
          · exact ⟨_, rfl, by omega, by omega⟩
          · exact ⟨_, rfl, by omega, by omega⟩
        obtain ⟨i, rfl, i0, i1⟩ := hxi
        refine ⟨_, _, rfl, rfl, _, _, rfl, ?_⟩
        have m0 : 0 < (if 1 + i < w - (n - w) then 1 + i else w - (n - w)) := by split <;> omega
        have m1 : (if 1 + i < w - (n - w) then 1 + i else w - (n - w)) ≤ w - (n - w) := by split <;> omega
        generalize (if 1 + i < w - (n - w) then 1 + i else w - (n - w)) = m at *
        refine ⟨r, c, m, rfl, g3.1, m0, by omega, fun y H4 y0 y1 g4 => ⟨_, _, rfl, rfl, by show 2 ≤ sizeLine; decide, fun a na => ?_⟩⟩
        exact k a (n - w, some (n - w + 1 + y)) _ ((((g12.trans gl).trans g3).trans g4).trans (Go.new g4.1 na)) upd_same ⟨by show -1000 ≤ n - w; omega, by show n - w ≤ 1000; omega, fun g hg => by cases hg; show n - w < n - w + 1 + y ∧ n - w + 1 + y ≤ 1000; omega⟩
theorem scMoved : FnScope ["_law_bag_here", "_law_bar_here", "_law_wide", "_law_born"] ["_law_bag_here", "_law_bar_here", "_law_wide"] (defScope sMoved) := ⟨rfl, rfl, rfl, by decide +kernel, rfl, by decide +kernel, by decide +kernel⟩
theorem ok_moved {f : Addr} {fd : FuncData} (F : L2.Fun K "_law_moved" "_law_moved" sMoved f fd) (T : Gb mg) (cP : Cal P w K mg base 1 "_law_pick" spPick []) : FnOk P w K mg base CX0 2 f fd ["_law_bag_here", "_law_bar_here", "_law_wide"] spMoved := by
  refine F.ok scMoved (fun vs H Q E h => ?_) (fun cdv A outer s H vs Q E hr h => ?_)
  · obtain ⟨r, c, p, x, w, rfl, _⟩ := h
    rfl
  · obtain ⟨r, c, p, ⟨x1, x2⟩, w, rfl, bag, hp, w1, w2, k⟩ := h
    refine ⟨_, C8.pss_cut (ps_set (i := 3) scMoved.nd rfl (Or.inl rfl) (pe_callB (call_max2 rfl) (by rfl) T.max (by decide +kernel) (pa_cons (pe_un un_neg (pv 2)) (pa_cons (pe_callB (call_min2 rfl) (by rfl) T.min (by decide +kernel) (pa_cons (pe_op op_sub (pv 2) pe_int) (pa_cons (pe_op op_sub (pe_op op_add (pe_ix ix_tup (pv 1) pe_int (fun _ _ => rfl)) (C8.pe_c cP hr (by decide) (by rfl) (pa_cons (pv 0) (pa_cons pe_int pa_nil)))) pe_int) pa_nil))) pa_nil))))
      (pss_cons (ps_if (pt_cmpR op_isN (pe_ix ix_tup (pv 1) pe_int (fun _ _ => rfl)) pe_non (nomark _)) (pss_one (ps_ret (pe_tup (pa_cons (pv 3) (pa_cons pe_non pa_nil))))) pss_nil)
      (pss_one (ps_ret (pe_tup (pa_cons (pv 3) (pa_cons (pe_callB (call_max2 rfl) (by rfl) T.max (by decide +kernel) (pa_cons (pe_op op_add (pv 3) pe_int) (pa_cons (pe_callB (call_min2 rfl) (by rfl) T.min (by decide +kernel) (pa_cons (pv 2) (pa_cons (pe_op op_sub (pe_op op_add (pe_ix ix_tup (pv 1) pe_int (fun _ _ => rfl)) (C8.pe_c cP hr (by decide) (by rfl) (pa_cons (pv 0) (pa_cons pe_int pa_nil)))) pe_int) pa_nil))) pa_nil))) pa_nil)))))), ?_⟩
    refine ⟨fun σ' H' => ∃ b : Int, σ' = [some (.ref r), some (.ref p), some (.int w), some (.int b)] ∧ Go r c H H' ∧ -w ≤ b ∧ b ≤ w - 1, ?_, ?_⟩
    · refine ⟨_, rfl, _, rfl, _, rfl, _, _, rfl, rfl, _, rfl, p, _, _, _, rfl, rfl, SqT.of hp, rfl, _, rfl, r, c, 5, rfl, bag, by decide, by decide, fun n H1 n0 n1 g1 => ?_⟩
      refine ⟨_, _, rfl, rfl, _, _, rfl, rfl, _, _, rfl, _, _, rfl, ?_⟩
      refine ⟨_, rfl, g1, ?_, ?_⟩
      · split <;> split <;> omega
      · split <;> split <;> omega
    rintro σ' H1 ⟨b, rfl, g1, b1, b2⟩
    have hp1 := g1.tup bag hp
    cases x2 with
    | none =>
      refine ⟨_, rfl, _, _, _, _, rfl, rfl, SqT.of hp1, rfl, rfl, _, rfl, iteT ?_⟩
      exact ⟨_, rfl, by show 2 ≤ sizeLine; decide, fun a na => k a (b, none) _ (g1.trans (Go.new g1.1 na)) upd_same ⟨by show -1000 ≤ b; omega, by show b ≤ 1000; omega, fun g hg => nomatch hg⟩⟩
    | some g0 =>
      refine ⟨_, rfl, _, _, _, _, rfl, rfl, SqT.of hp1, rfl, rfl, _, rfl, iteF ?_⟩
      refine ⟨_, rfl, _, rfl, _, _, rfl, rfl, _, rfl, _, rfl, _, _, _, _, rfl, rfl, SqT.of hp1, rfl, _, rfl, r, c, 5, rfl, g1.1, by decide, by decide, fun n H2 n0 n1 g2 => ?_⟩
      refine ⟨_, _, rfl, rfl, _, _, rfl, rfl, _, _, rfl, _, _, rfl, by show 2 ≤ sizeLine; decide, fun a na => ?_⟩
      refine k a (b, some _) _ ((g1.trans g2).trans (Go.new g2.1 na)) upd_same ⟨by show -1000 ≤ b; omega, by show b ≤ 1000; omega, fun g hg => ?_⟩
      cases hg
      constructor
      · split <;> split <;> omega
      · split <;> split <;> omega
abbrev listsN : List Str := ["_law_bag_here", "_law_wide", "_law_most", "_law_one", "_law_other", "_law_bar_here", "_law_turn"]
theorem scLists : FnScope listsN ["_law_bag_here", "_law_wide", "_law_most"] (defScope sLists) := ⟨rfl, rfl, rfl, by decide +kernel, rfl, by decide +kernel, by decide +kernel⟩
theorem ok_lists {f : Addr} {fd : FuncData} (F : L2.Fun K "_law_lists" "_law_lists" sLists f fd) (T : Gb mg) (cP : Cal P w K mg base 1 "_law_pick" spPick []) (cB : Cal P w K mg base 3 "_law_bar" spLBar []) (cM : Cal P w K mg base 2 "_law_moved" spMoved []) : FnOk P w K mg base CX0 4 f fd ["_law_bag_here", "_law_wide", "_law_most"] spLists := by
  refine F.ok scLists (fun vs H Q E h => ?_) (fun cdv A outer s H vs Q E hr h => ?_)
  · obtain ⟨r, c, w, m, rfl, _⟩ := h
    rfl
  · obtain ⟨r, c, w, m, rfl, bag, w1, w2, m20, k⟩ := h
    refine ⟨_, C8.pss_cut (ps_setLc (i := 3) (own := [("_law_turn", 6)]) (g := gName 6) (tt := tYes) rfl scLists.nd rfl rfl (sw_true rfl rfl rfl (by decide +kernel)) (pi_range1 (by rfl) T.rng (pa_cons (C8.pe_c cP hr (by decide) (by rfl) (pa_cons (pv 0) (pa_cons (pe_op op_add (pv 2) pe_int) pa_nil))) pa_nil)) (blkOk_by (N := listsN) (sc := defScope sLists) (by decide +kernel)) (fun _ _ _ _ _ => (pg_name (i := 6) scLists.nd rfl (Or.inl rfl))) (fun _ _ _ _ _ => pts_nil) (fun _ _ _ _ _ => (C8.pe_c cB hr (by decide) (by rfl) (pa_cons (pv 0) (pa_cons (pv 1) pa_nil)))))
      (pss_cons (ps_set (i := 4) scLists.nd rfl (Or.inl rfl) (pe_lst pa_nil))
      (C8.pss_cut (ps_for PassesOwn.never rfl (pi_list (pv 3)) (pg_name (i := 5) scLists.nd rfl (Or.inl rfl))
      (pss_one (ps_if (pt_cmpR op_gt (C8.pe_c cP hr (by decide) (by rfl) (pa_cons (pv 0) (pa_cons pe_int pa_nil))) pe_int (nomark _)) (pss_one (ps_expr (pe_bm PySem.F.plainAttrs_list PySem.F.slot_list_insert PySem.F.type_list_insert mt_insert (pv 4) (pa_cons (C8.pe_c cP hr (by decide) (by rfl) (pa_cons (pv 0) (pa_cons (pe_op op_add (pe_callB call_len_seq (by rfl) T.len PySem.boot_len (pa_cons (pv 4) pa_nil)) pe_int) pa_nil))) (pa_cons (C8.pe_c cM hr (by decide) (by rfl) (pa_cons (pv 0) (pa_cons (pv 5) (pa_cons (pv 1) pa_nil)))) pa_nil))))) pss_nil)))
      (C8.pss_cut (ps_while PassesOwn.never (PW.pt (pw_and (pt_cmpR op_lt (pe_callB call_len_seq (by rfl) T.len PySem.boot_len (pa_cons (pv 4) pa_nil)) (pv 2) (nomark _)) (pw_and1 (pt_cmpR op_eq (C8.pe_c cP hr (by decide) (by rfl) (pa_cons (pv 0) (pa_cons pe_int pa_nil))) pe_int (nomark _)))))
      (pss_one (ps_expr (pe_bm PySem.F.plainAttrs_list PySem.F.slot_list_append PySem.F.type_list_append mt_append (pv 4) (pa_cons (C8.pe_c cB hr (by decide) (by rfl) (pa_cons (pv 0) (pa_cons (pv 1) pa_nil))) pa_nil)))))
      (pss_one (ps_ret (pe_tup (pa_cons (pv 3) (pa_cons (pv 4) pa_nil)))))))), ?_⟩
    refine ⟨fun σ' H' => ∃ (o1 : Addr) (L : List Bar), σ' = [some (.ref r), some (.int w), some (.int (m : Int)), some (.ref o1), Option.none, Option.none, Option.none] ∧ Go r c H H' ∧ BL (Off r c H') o1 L ∧ L.length ≤ m ∧ ∀ b ∈ L, okBar b, ?_, ?_⟩
    · refine ⟨_, rfl, _, rfl, _, _, rfl, rfl, r, c, _, rfl, bag, by omega, by omega, fun n H1 n0 n1 g1 => ⟨n, rfl, by omega, by omega, fun D nD => ?_⟩⟩
      have nDa := g1.1.ne nD
      refine lc_range (lo := 0) (n := n.toNat) (fun j H2 => Go r c H1 H2 ∧ ∃ (as : List Addr) (L : List Bar), H2 D = some (.lst (as.map V.ref)) ∧ BT H2 as L ∧ L.length ≤ j ∧ ∀ b ∈ L, okBar b) ⟨Go.new g1.1 nD, [], [], upd_same, .nil, Nat.le_refl _, (fun _ h => nomatch h)⟩ ?_ ?_
      · rintro j H2 hj ⟨g2, as, L, hD, bt, lj, ok⟩
        refine ⟨rfl, tyes_in ⟨_, rfl, _, rfl, r, c, w, rfl, g2.1, w1, w2, fun a b H3 g3 ha ob => ?_⟩⟩
        have hD3 := g3.2 _ _ nDa.1 nDa.2 hD
        have tx : TExt H3 (upd H3 D (.lst (as.map V.ref ++ [.ref a]))) := TExt.put hD3
        have lb := bt.len
        refine ⟨_, hD3, small1000 (by rw [List.length_map]; omega), Go.put g1.1 (g2.trans g3) nD, as ++ [a], L ++ [b], by rw [upd_same, List.map_append]; rfl, Paired.snoc (tx.bt (bt.go g2.1 g3)) (tx _ _ ha), by rw [List.length_append]; exact Nat.succ_le_succ lj, fun x hx => ?_⟩
        rcases List.mem_append.mp hx with z | z
        · exact ok x z
        · rw [List.mem_singleton.mp z]; exact ob
      · rintro H2 ⟨g2, as, L, hD, bt, lj, ok⟩
        exact ⟨D, L, rfl, g1.trans g2, ⟨as, off_at nDa hD, bt.off g2.1⟩, by omega, ok⟩
    rintro σ' H1 ⟨o1, L, rfl, g1, ⟨as, ho1, bt1⟩, lL, okL⟩
    obtain ⟨no1a, no1c, ho1'⟩ := off_some ho1
    have la : as.length = L.length := bt1.len
    refine ⟨Nat.zero_le _, fun u nu => ?_⟩
    have nua := g1.1.ne nu
    have gu := Go.new (o := .lst []) g1.1 nu
    have nou : o1 ≠ u := fun q => by rw [q, nu] at ho1'; cases ho1'
    refine ⟨fun σ' H' => ∃ (v5 : Option V) (bs : List Addr) (M : List Bar), σ' = [some (.ref r), some (.int w), some (.int (m : Int)), some (.ref o1), some (.ref u), v5, Option.none] ∧ Go r c H1 H' ∧ H' u = some (.lst (bs.map V.ref)) ∧ BT H' bs M ∧ M.length ≤ m ∧ ∀ b ∈ M, okBar b, ?_, ?_⟩
    · refine ⟨_, rfl, o1, rfl, ⟨_, SqL.of (gu.2 _ _ no1a no1c ho1')⟩, ?_⟩
      refine for_list (K := K) (a := o1) (xs := as.map V.ref) (fun i σ' H' => ∃ (v5 : Option V) (bs : List Addr) (M : List Bar), σ' = [some (.ref r), some (.int w), some (.int (m : Int)), some (.ref o1), some (.ref u), v5, Option.none] ∧ Go r c H1 H' ∧ H' u = some (.lst (bs.map V.ref)) ∧ BT H' bs M ∧ M.length ≤ i ∧ ∀ b ∈ M, okBar b)
        ⟨_, [], [], rfl, gu, upd_same, .nil, Nat.le_refl _, (fun _ h => nomatch h)⟩ (fun i σ' H' _ ⟨_, _, _, _, g, _⟩ => SqL.of (g.2 _ _ no1a no1c ho1')) ?_ ?_
      · rintro i y σ' H2 hy ⟨v5, bs, M, rfl, g2, hu, bt, lM, okM⟩
        obtain ⟨p, hp, rfl⟩ := ref_get hy
        obtain ⟨x, hx, hxt⟩ := bt1.get hp
        have hp2 := g2.tup g1.1 ((off_some hxt).2.2)
        have li := (List.getElem?_eq_some_iff.mp hp).1
        have lbs := bt.len
        refine ⟨_, rfl, r, c, 6, rfl, g2.1, by decide, by decide, fun z H3 z0 z1 g3 => ⟨_, _, rfl, rfl, _, rfl, ?_⟩⟩
        have hu3 := g3.2 _ _ nua.1 nua.2 hu
        refine ite2 (fun _ => ?_) (fun _ => ⟨_, bs, M, rfl, g2.trans g3, hu3, bt.go g2.1 g3, by omega, okM⟩)
        refine ⟨_, rfl, .inl ⟨rfl, _, SqL.of hu3⟩, _, rfl, _, rfl, u, _, rfl, .inl (SqL.of hu3), _, _, rfl, rfl, r, c, _, rfl, g3.1, by omega, by rw [List.length_map]; omega, fun n H4 n0 n1 g4 => ?_⟩
        refine ⟨_, rfl, _, rfl, _, rfl, r, c, p, x, w, rfl, g4.1, g4.tup g3.1 (g3.tup g2.1 hp2), w1, w2, fun a b H5 g5 ha ob => ?_⟩
        have hu5 := g5.2 _ _ nua.1 nua.2 (g4.2 _ _ nua.1 nua.2 hu3)
        have bt5 := ((bt.go g2.1 g3).go g3.1 g4).go g4.1 g5
        refine ⟨u, _, n, _, rfl, rfl, hu5, small1000 (by rw [List.length_map]; omega), n0, by rw [List.length_map] at n1; omega, ?_⟩
        have tx : TExt H5 (upd H5 u (.lst ((bs.map V.ref).take n.toNat ++ [.ref a] ++ (bs.map V.ref).drop n.toNat))) := TExt.put hu5
        refine ⟨_, bs.take n.toNat ++ [a] ++ bs.drop n.toNat, M.take n.toNat ++ [b] ++ M.drop n.toNat, rfl, Go.put g1.1 (((g2.trans g3).trans g4).trans g5) nu, ?_, BT.ins (tx _ _ ha) _ (tx.bt bt5), by rw [ins_len]; exact Nat.succ_le_succ lM, fun y hy => ?_⟩
        · rw [upd_same, List.map_append, List.map_append, List.map_take, List.map_drop]
          rfl
        · rcases ins_mem hy with e | e
          · rw [e]; exact ob
          · exact okM y e
      · rintro σ' H2 ⟨v5, bs, M, rfl, g2, hu, bt, lM, okM⟩
        exact ⟨_, bs, M, rfl, g2, hu, bt, by rw [List.length_map] at lM; omega, okM⟩
    rintro σ' H2 ⟨v5, bs, M, rfl, g2, hu, bt, lM, okM⟩
    refine ⟨fun σ' H' => ∃ (v5 : Option V) (bs : List Addr) (M : List Bar), σ' = [some (.ref r), some (.int w), some (.int (m : Int)), some (.ref o1), some (.ref u), v5, Option.none] ∧ Go r c H1 H' ∧ H' u = some (.lst (bs.map V.ref)) ∧ BT H' bs M ∧ M.length ≤ m ∧ ∀ b ∈ M, okBar b, ?_, ?_⟩
    · refine ⟨fun μ σ' H' => ∃ (v5 : Option V) (bs : List Addr) (M : List Bar), σ' = [some (.ref r), some (.int w), some (.int (m : Int)), some (.ref o1), some (.ref u), v5, Option.none] ∧ Go r c H1 H' ∧ H' u = some (.lst (bs.map V.ref)) ∧ BT H' bs M ∧ M.length + μ = m ∧ ∀ b ∈ M, okBar b, ⟨m - M.length, v5, bs, M, rfl, g2, hu, bt, by omega, okM⟩, ?_⟩
      rintro μ σ' H3 ⟨v5, bs, M, rfl, g3, hu3, bt3, lM3, okM3⟩
      have lbs := bt3.len
      refine ⟨_, rfl, u, _, rfl, .inl (SqL.of hu3), _, rfl, _, _, rfl, rfl, _, rfl, ?_⟩
      refine ite2 (fun q => ?_) (fun q => iteF ⟨_, bs, M, rfl, g3, hu3, bt3, by omega, okM3⟩)
      have lt : M.length < m := by
        have := of_decide_eq_true q
        rw [List.length_map, lbs] at this
        omega
      refine ⟨_, rfl, r, c, 3, rfl, g3.1, by decide, by decide, fun z H4 z0 z1 g4 => ⟨rfl, _, rfl, ?_⟩⟩
      have hu4 := g4.2 _ _ nua.1 nua.2 hu3
      refine ite2 (fun _ => ?_) (fun _ => ?_)
      · refine ⟨_, fun σ' H' z => ⟨μ - 1, by omega, z⟩, ?_⟩
        refine ⟨_, rfl, .inl ⟨rfl, _, SqL.of hu4⟩, _, rfl, _, rfl, r, c, w, rfl, g4.1, w1, w2, fun a b H5 g5 ha ob => ?_⟩
        have hu5 := g5.2 _ _ nua.1 nua.2 hu4
        have tx : TExt H5 (upd H5 u (.lst (bs.map V.ref ++ [.ref a]))) := TExt.put hu5
        refine ⟨u, _, _, rfl, rfl, hu5, small1000 (by rw [List.length_map]; omega), ?_⟩
        refine ⟨_, bs ++ [a], M ++ [b], rfl, Go.put g1.1 ((g3.trans g4).trans g5) nu, by rw [upd_same, List.map_append]; rfl, Paired.snoc (tx.bt ((bt3.go g3.1 g4).go g4.1 g5)) (tx _ _ ha), by rw [List.length_append]; show M.length + 1 + (μ - 1) = m; omega, fun y hy => ?_⟩
        rcases List.mem_append.mp hy with e | e
        · exact okM3 y e
        · rw [List.mem_singleton.mp e]; exact ob
      · exact ⟨_, bs, M, rfl, g3.trans g4, hu4, bt3.go g3.1 g4, by omega, okM3⟩
    rintro σ' H3 ⟨v5, bs, M, rfl, g3, hu3, bt3, lM3, okM3⟩
    refine ⟨_, rfl, _, rfl, by show 2 ≤ sizeLine; decide, fun t nt => ?_⟩
    have gt := Go.new (o := .tup [V.ref o1, V.ref u]) g3.1 nt
    have g13 := g3.trans gt
    refine k t o1 u L M _ (g1.trans g13) upd_same ⟨as, g13.off _ _ ho1, bt1.mono fun _ _ z => g13.off _ _ z⟩ ⟨bs, off_at nua (Ext.upd nt _ _ hu3), (bt3.go g3.1 gt).off gt.1⟩ lL lM3 okL okM3
end
end E47.J

set_option Elab.async false
set_option linter.all false
set_option maxRecDepth 100000
set_option maxHeartbeats 4000000
set_option pp.maxSteps 100
/-! All ways tried: _law_paired. -/
namespace E47.J
open PySem L2
abbrev sPaired : Stmt := top 32
def spPaired (n : Nat) : Sp := fun vs H Q _ => ∃ (o1 o2 l : Addr) (L M : List Bar) (e : Int) (used : List Int) (i : Nat), vs = [.ref o1, .ref o2, .int e, .ref l, .int (i : Int)] ∧ BL H o1 L ∧ BL H o2 M ∧ L.length ≤ 20 ∧ M.length ≤ 20 ∧ H l = some (.lst (used.map V.int)) ∧ used.length ≤ i ∧ i ≤ L.length ∧ L.length < i + n ∧
  ∀ (bb : Bool) (H' : Hp), (bb = true ↔ PEx M e (L.drop i) used) → Ext H H' → Q (.bl bb) H'
theorem pex_nil {M : List Bar} {e : Int} {used : List Int} : (((List.range M.length).map fun j : Nat => (decide ((j : Int) ∈ used) || shortB (M.getD j (0, none)) e)).all id = true) ↔ PEx M e [] used := by
  rw [List.all_eq_true]
  constructor
  · intro h j y hy
    have lt := (List.getElem?_eq_some_iff.mp hy).1
    have := h _ (List.mem_map.mpr ⟨j, List.mem_range.mpr lt, rfl⟩)
    rw [List.getD_eq_getElem?_getD, hy] at this
    rcases Bool.or_eq_true_iff.mp this with z | z
    · exact .inl (of_decide_eq_true z)
    · exact .inr z
  · intro h v hv
    obtain ⟨j, hj, rfl⟩ := List.mem_map.mp hv
    have lt := List.mem_range.mp hj
    have hy : M[j]? = some M[j] := List.getElem?_eq_getElem lt
    show (_ || _) = true
    rw [List.getD_eq_getElem?_getD, hy]
    rcases h j M[j] hy with z | z
    · rw [decide_eq_true z]
      rfl
    · exact Bool.or_eq_true_iff.mpr (.inr z)
section
variable {P : Program} {w : World} {K : PySem.W.Frag} {mg : Str → Option Value} {base : Heap}
abbrev pairedN : List Str := ["_law_one", "_law_other", "_law_e", "_law_used", "_law_at", "_law_to", "_law_bar"]
theorem scPaired : FnScope pairedN ["_law_one", "_law_other", "_law_e", "_law_used", "_law_at"] (defScope sPaired) := ⟨rfl, rfl, rfl, by decide +kernel, rfl, by decide +kernel, by decide +kernel⟩
theorem ok_paired {f : Addr} {fd : FuncData} (F : L2.Fun K "_law_paired" "_law_paired" sPaired f fd) (T : Gb mg) (hm : mg "_law_paired" = some (.ref f)) (kp : PySem.W.keepIn K (.ref f) = true) (bn : Binds K fd ["_law_one", "_law_other", "_law_e", "_law_used", "_law_at"] [])
    (cF : Cal P w K mg base 1 "_law_fits" spFit []) (cL : Cal P w K mg base 1 "_law_is_long" spIsLong []) : ∀ n : Nat, FnOk P w K mg base CX0 (n + 2) f fd ["_law_one", "_law_other", "_law_e", "_law_used", "_law_at"] (spPaired n)
  | 0 => ⟨fun vs H Q E h => (by obtain ⟨o1, o2, l, L, M, e, used, i, rfl, _⟩ := h; rfl), fun A outer s H args us vs Q E _ _ _ _ h => by
      obtain ⟨o1, o2, l, L, M, e, used, i, rfl, _, _, _, _, _, _, h1, h2, _⟩ := h
      omega⟩
  | n + 1 => by
    have cS : Cal P w K mg base (n + 2) "_law_paired" (spPaired n) [] := ⟨⟨f, _, _, [], ok_paired F T hm kp bn cF cL n, hm, kp, bn, .nil⟩⟩
    refine F.ok scPaired (fun vs H Q E h => ?_) (fun cdv A outer s H vs Q E hr h => ?_)
    · obtain ⟨o1, o2, l, L, M, e, used, i, rfl, _⟩ := h
      rfl
    · obtain ⟨o1, o2, l, L, M, e, used, i, rfl, b1, b2, lL, lM, hl, lu, lk, fuel, k⟩ := h
      refine ⟨_, pss_cons (ps_if (pt_cmpR op_eq (pv 4) (pe_callB call_len_seq (by rfl) T.len PySem.boot_len (pa_cons (pv 0) pa_nil)) (nomark _)) (pss_one (ps_ret (pe_callB (cr_all rfl) (by rfl) T.all (by decide +kernel) (pa_cons (pe_lc (own := [("_law_to", 5), ("_law_bar", 6)]) (g := gTup K 2 (gCons (gName 5) (gCons (gName 6) gNil))) (tt := tYes) rfl scPaired.nd (pi_enum (by rfl) T.enum (pa_cons (pv 1) pa_nil)) (blkOk_by (N := pairedN) (sc := defScope sPaired) (by decide +kernel)) (fun _ _ _ _ _ => (pg_tup rfl (pgs_cons (pg_name (i := 5) scPaired.nd rfl (Or.inl rfl)) (pgs_cons (pg_name (i := 6) scPaired.nd rfl (Or.inl rfl)) pgs_nil)))) (fun _ _ _ _ _ => pts_nil) (fun _ _ _ _ _ => (pe_or (pe_cmpR (r := rIn K false) op_in_seq (pv 5) (pv 3) (by rfl)) (pe_one (pe_not (C8.pe_c cL hr (by omega) (by rfl) (pa_cons (pv 6) (pa_cons (pv 2) pa_nil)))))))) pa_nil)))) pss_nil)
      (C8.pss_cut (ps_if (PW.pt (pw_and (pt_not (pt_val (C8.pe_c cL hr (by omega) (by rfl) (pa_cons (pe_ix ix_list (pv 0) (pv 4) (fun _ _ => rfl)) (pa_cons (pv 2) pa_nil))))) (pw_and1 (pt_val (C8.pe_c cS hr (by omega) (by rfl) (pa_cons (pv 0) (pa_cons (pv 1) (pa_cons (pv 2) (pa_cons (pv 3) (pa_cons (pe_op op_add (pv 4) pe_int) pa_nil)))))))))) (pss_one (ps_ret pe_bl)) pss_nil)
      (pss_cons (ps_for PassesOwn.never rfl (pi_enum (by rfl) T.enum (pa_cons (pv 1) pa_nil)) (pg_tup rfl (pgs_cons (pg_name (i := 5) scPaired.nd rfl (Or.inl rfl)) (pgs_cons (pg_name (i := 6) scPaired.nd rfl (Or.inl rfl)) pgs_nil)))
      (pss_one (ps_if (PW.pt (pw_and (pt_cmpR op_notIn_seq (pv 5) (pv 3) (by rfl)) (pw_and1 (pt_val (C8.pe_c cF hr (by omega) (by rfl) (pa_cons (pe_ix ix_list (pv 0) (pv 4) (fun _ _ => rfl)) (pa_cons (pv 6) (pa_cons (pv 2) pa_nil)))))))) (pss_one (ps_if (pt_val (C8.pe_c cS hr (by omega) (by rfl) (pa_cons (pv 0) (pa_cons (pv 1) (pa_cons (pv 2) (pa_cons (pe_op op_cat (pv 3) (pe_lst (pa_cons (pv 5) pa_nil))) (pa_cons (pe_op op_add (pv 4) pe_int) pa_nil))))))) (pss_one (ps_ret pe_bl)) pss_nil)) pss_nil)))
      (pss_one (ps_ret pe_bl)))), ?_⟩
      have b1' := b1
      have b2' := b2
      obtain ⟨as, ho1, bt1⟩ := b1
      obtain ⟨bs, ho2, bt2⟩ := b2
      have la : as.length = L.length := bt1.len
      have lb : bs.length = M.length := bt2.len
      refine ⟨_, rfl, _, rfl, o1, _, rfl, .inl (SqL.of ho1), rfl, _, rfl, ?_⟩
      by_cases hi : i = L.length
      · have dn : decide (V.int (i : Int) = V.int (((as.map V.ref).length : Nat) : Int)) = true := decide_eq_true (by rw [List.length_map, la, hi])
        refine ite2 (fun _ => ?_) (fun z => absurd dn z)
        have ed : L.drop i = [] := by rw [hi]; exact List.drop_length
        rw [ed] at k
        refine ⟨_, rfl, o2, _, rfl, SqL.of ho2, fun D nD => ?_⟩
        refine lc_gen (p := fun _ => true) walk_enum nD (by rw [List.length_map, lb]; omega) (fun j y _ => y = V.bl (decide ((j : Int) ∈ used) || shortB (M.getD j (0, none)) e)) (fun _ _ _ _ _ z => z) (fun H' x => SqL.of (x _ _ ho2)) ?_ ?_
        · rintro j z H5 H' R N hj e5 ⟨t5, u5, y, rfl, nt5, rfl, hu5, hy⟩ hR hN
          cases hu5
          obtain ⟨b, hb, rfl⟩ := ref_get hy
          obtain ⟨v, hv, hvt⟩ := bt2.get hb
          have x5 := Ext.upd (o := .tup [.int (j : Nat), .ref b]) nt5
          refine ⟨t5, _, rfl, SqT.of upd_same, rfl, _, _, rfl, _, _, rfl, rfl, rfl, tyes_in ?_⟩
          refine ⟨_, rfl, _, rfl, l, _, rfl, .inl (SqL.of (x5 _ _ (e5 _ _ hl))), rfl, flat_ints _, _, rfl, ?_⟩
          have ein : (if (false : Bool) = true then !inV (V.int (j : Int)) (used.map V.int) else inV (V.int (j : Int)) (used.map V.int)) = decide ((j : Int) ∈ used) := inV_ints _ _
          rw [ein]
          have gv : M.getD j (0, none) = v := by rw [List.getD_eq_getElem?_getD, hv]; rfl
          cases hp : decide ((j : Int) ∈ used) with
          | true => exact iteT (hR rfl _ _ x5 (by rw [hp]; rfl))
          | false => exact iteF ⟨_, rfl, _, rfl, b, v, e, rfl, x5 _ _ (e5 _ _ hvt), _, rfl, hR rfl _ _ x5 (by rw [hp, gv, Bool.not_not]; rfl)⟩
        intro ys H5 e5 hD5 pr5
        have ey := vals_of (f := fun j => V.bl (decide ((j : Int) ∈ used) || shortB (M.getD j (0, none)) e)) pr5
        rw [List.filter_eq_self.mpr fun _ _ => rfl, List.length_map, lb] at ey
        subst ey
        have hD5' : H5 D = some (.lst (((List.range M.length).map fun j : Nat => (decide ((j : Int) ∈ used) || shortB (M.getD j (0, none)) e)).map V.bl)) := by
          rw [List.map_map, hD5]
          rfl
        exact ⟨D, _, rfl, SqL.of hD5', k _ H5 pex_nil e5⟩
      · have dn : decide (V.int (i : Int) = V.int (((as.map V.ref).length : Nat) : Int)) = false := decide_eq_false (fun z => by injection z with z; rw [List.length_map, la] at z; omega)
        refine ite2 (fun z => absurd (z.symm.trans dn) (by decide)) (fun _ => ?_)
        have lt : i < L.length := by omega
        have ga : as[i]? = some (as[i]'(by omega)) := List.getElem?_eq_getElem _
        obtain ⟨x, hx, hxt⟩ := bt1.get ga
        have ma : (as.map V.ref)[i]? = some (.ref (as[i]'(by omega))) := by rw [List.getElem?_map, ga]; rfl
        generalize as[i]'(by omega) = a at *
        have ed : L.drop i = x :: L.drop (i + 1) := by
          rw [List.drop_eq_getElem_cons lt]
          have := (List.getElem?_eq_some_iff.mp hx).2
          rw [this]
        rw [ed] at k
        refine ⟨fun σ' J => σ' = [some (.ref o1), some (.ref o2), some (.int e), some (.ref l), some (.int (i : Int)), Option.none, Option.none] ∧ Ext H J ∧ ¬ (shortB x e = true ∧ PEx M e (L.drop (i + 1)) used), ?_, ?_⟩
        · refine ⟨_, rfl, _, rfl, o1, _, _, _, rfl, rfl, SqL.of ho1, at_of (j := i) rfl ma, _, rfl, a, x, e, rfl, hxt, _, rfl, ?_⟩
          cases hs : shortB x e with
          | false => exact iteF (iteF ⟨rfl, Ext.rfl', fun z => by cases z.1⟩)
          | true =>
            refine iteT ⟨_, rfl, _, rfl, _, rfl, _, rfl, _, rfl, _, _, rfl, rfl, o1, o2, l, L, M, e, used, i + 1, by rw [show ((i + 1 : Nat) : Int) = (i : Int) + 1 from by omega]; rfl, b1', b2', lL, lM, hl, by omega, by omega, by omega, fun bb H2 hbb x2 => ⟨_, rfl, ?_⟩⟩
            cases bb with
            | false => exact iteF ⟨rfl, x2, fun z => by have := hbb.mpr z.2; cases this⟩
            | true => exact iteT (k true H2 ⟨fun _ => .inl ⟨hs, hbb.mp rfl⟩, fun _ => rfl⟩ x2)
        rintro σ' J ⟨rfl, xJ, no⟩
        refine ⟨_, rfl, o2, _, rfl, SqL.of (xJ _ _ ho2), ?_⟩
        refine for_it walk_enum (fun j σ' J' => (∃ v5 v6 : Option V, σ' = [some (.ref o1), some (.ref o2), some (.int e), some (.ref l), some (.int (i : Int)), v5, v6]) ∧ Ext H J' ∧ ∀ (j' : Nat) (y : Bar), j' < j → M[j']? = some y → (j' : Int) ∉ used → fitB x y e = true → ¬ PEx M e (L.drop (i + 1)) (used ++ [(j' : Int)]))
          ⟨⟨_, _, rfl⟩, xJ, fun j' _ h => absurd h (Nat.not_lt_zero j')⟩ (fun j σ' J' _ z => SqL.of (z.2.1 _ _ ho2)) ?_ ?_
        · rintro j z σ' J3 J4 hj ⟨⟨v5, v6, rfl⟩, x3, nos⟩ ⟨t5, u5, y, rfl, nt5, rfl, hu5, hy⟩
          cases hu5
          obtain ⟨b, hb, rfl⟩ := ref_get hy
          obtain ⟨v, hv, hvt⟩ := bt2.get hb
          have x5 := Ext.upd (o := .tup [.int (j : Nat), .ref b]) nt5
          have xx := x3.trans x5
          have next : ∀ J', Ext H J' → ((j : Int) ∉ used → fitB x v e = true → ¬ PEx M e (L.drop (i + 1)) (used ++ [(j : Int)])) → (∃ v5 v6 : Option V, [some (.ref o1), some (.ref o2), some (.int e), some (.ref l), some (.int (i : Int)), some (.int (j : Int)), some (.ref b)] = [some (.ref o1), some (.ref o2), some (.int e), some (.ref l), some (.int (i : Int)), v5, v6]) ∧ Ext H J' ∧ ∀ (j' : Nat) (y : Bar), j' < j + 1 → M[j']? = some y → (j' : Int) ∉ used → fitB x y e = true → ¬ PEx M e (L.drop (i + 1)) (used ++ [(j' : Int)]) := fun J' xJ' nj => ⟨⟨_, _, rfl⟩, xJ', fun j' y' lj hy' => by
            by_cases q : j' = j
            · subst q
              rw [hv] at hy'
              cases hy'
              exact nj
            · exact nos j' y' (by omega) hy'⟩
          refine ⟨t5, _, rfl, SqT.of upd_same, rfl, _, _, rfl, _, _, rfl, rfl, ?_⟩
          refine ⟨_, rfl, _, rfl, l, _, rfl, .inl (SqL.of (xx _ _ hl)), rfl, flat_ints _, _, rfl, ?_⟩
          have ein : (if (true : Bool) = true then !inV (V.int (j : Int)) (used.map V.int) else inV (V.int (j : Int)) (used.map V.int)) = !decide ((j : Int) ∈ used) := by
            rw [if_pos rfl, inV_ints]
          rw [ein]
          by_cases hp : (j : Int) ∈ used
          · rw [decide_eq_true hp]
            exact iteF (iteF (next _ xx fun z => absurd hp z))
          · rw [decide_eq_false hp]
            refine iteT ⟨_, rfl, _, rfl, o1, _, _, _, rfl, rfl, SqL.of (xx _ _ ho1), at_of (j := i) rfl ma, _, rfl, _, rfl, a, b, x, v, e, rfl, xx _ _ hxt, xx _ _ hvt, _, rfl, ?_⟩
            cases hf : fitB x v e with
            | false => exact iteF (next _ xx fun _ z => by rw [hf] at z; cases z)
            | true =>
              refine iteT ⟨_, rfl, _, rfl, _, rfl, _, rfl, _, rfl, by show 1 ≤ sizeLine; decide, fun q nq => ?_⟩
              have nqq : ∀ d u, H d = some u → d ≠ q := fun d u h => ne_of_none (xx _ _ h) nq
              have xq := xx.trans (Ext.upd (o := .lst [.int (j : Nat)]) nq)
              refine ⟨l, q, _, _, rfl, rfl, xq _ _ hl, upd_same, by rw [sizeLine_eq, List.length_map]; show used.length + 1 ≤ _; omega, fun l2 nl2 => ?_⟩
              have x6 := xq.trans (Ext.upd (o := .lst (used.map V.int ++ [.int (j : Nat)])) nl2)
              refine ⟨_, rfl, _, _, rfl, rfl, o1, o2, l2, L, M, e, used ++ [(j : Int)], i + 1, by rw [show ((i + 1 : Nat) : Int) = (i : Int) + 1 from by omega]; rfl, b1'.ext x6, b2'.ext x6, lL, lM, by rw [upd_same, List.map_append]; rfl, by rw [List.length_append, List.length_singleton]; omega, by omega, by omega, fun bb H2 hbb x2 => ⟨_, rfl, ?_⟩⟩
              cases bb with
              | false => exact iteF (next _ (x6.trans x2) fun _ _ z => by have := hbb.mpr z; cases this)
              | true => exact iteT (k true H2 ⟨fun _ => .inr ⟨j, v, hv, hp, hf, hbb.mp rfl⟩, fun _ => rfl⟩ (x6.trans x2))
        · rintro σ' J3 ⟨⟨v5, v6, rfl⟩, x3, nos⟩
          rw [List.length_map, lb] at nos
          refine k false J3 ⟨fun z => (by cases z), fun z => ?_⟩ x3
          rcases z with z | ⟨j, y, hy, h1, h2, h3⟩
          · exact absurd z no
          · exact absurd h3 (nos j y (List.getElem?_eq_some_iff.mp hy).1 hy h1 h2)
end
end E47.J

set_option Elab.async false
set_option linter.all false
set_option maxRecDepth 100000
set_option maxHeartbeats 4000000
set_option pp.maxSteps 100
/-! By bars that go over to others: _law_found_for. -/
namespace E47.J
open PySem L2
abbrev sFound : Stmt := top 33
def Mask (sn : Addr) (H : Hp) : Hp := fun b => if b = sn then none else H b
theorem mask_some {sn b : Addr} {H : Hp} {o : HO} (h : Mask sn H b = some o) : b ≠ sn ∧ H b = some o := by
  unfold Mask at h
  by_cases e : b = sn
  · rw [if_pos e] at h
    cases h
  · rw [if_neg e] at h
    exact ⟨e, h⟩
theorem mask_at {sn b : Addr} {H : Hp} {o : HO} (n : b ≠ sn) (h : H b = some o) : Mask sn H b = some o := by
  unfold Mask
  rw [if_neg n]
  exact h
theorem rows_mask {H J : Hp} {tk sn fi : Addr} {E : Int → List Int} {B m n l : Nat} {t : PF} (k : KeepD tk sn H J) (d : DI H tk m n t l) (x : RowsF (Mask sn H) fi E B m) : RowsF (Mask sn J) fi E B m := by
  obtain ⟨kv, ek, _⟩ := d
  have up : ∀ {b : Addr} {xs : List V}, Mask sn H b = some (.lst xs) → Mask sn J b = some (.lst xs) := fun {b xs} h => by
    obtain ⟨n1, h1⟩ := mask_some h
    exact mask_at n1 (k _ _ (fun z => by rw [z, ek] at h1; cases h1) n1 h1)
  obtain ⟨rs, h1, h2, h3, h4⟩ := x
  exact ⟨rs, up h1, h2, fun i r hr => up (h3 i r hr), h4⟩
def spFound (d : Nat) : Sp := fun vs H Q _ => ∃ (ed tk sn : Addr) (a : Int) (E : Int → List Int) (B m : Nat) (t : PF) (lt : Nat) (S : List Int), vs = [.int a, .ref ed, .ref tk, .ref sn] ∧ B ≤ 60 ∧ m ≤ 60 ∧ tk ≠ sn ∧ (0 ≤ a ∧ a < (B : Int)) ∧ RowsF (Mask sn H) ed E B m ∧ DI H tk m B t lt ∧ H sn = some (.lst (S.map V.int)) ∧ FPre E m a t S ∧ m < S.length + d ∧
  (∀ (t' : PF) (lt' : Nat) (H' : Hp), KeepD tk sn H H' → DI H' tk m B t' lt' → FYes E a t S t' → Q (.bl true) H') ∧ (∀ (S' : List Int) (H' : Hp), KeepD tk sn H H' → H' tk = H tk → H' sn = some (.lst (S'.map V.int)) → FNo E m t S (E a) S' → Q (.bl false) H')
section
variable {P : Program} {w : World} {K : PySem.W.Frag} {mg : Str → Option Value} {base : Heap}
abbrev foundN : List Str := ["_law_at", "_law_edges", "_law_taken", "_law_seen", "_law_to"]
theorem scFound : FnScope foundN ["_law_at", "_law_edges", "_law_taken", "_law_seen"] (defScope sFound) := ⟨rfl, rfl, rfl, by decide +kernel, rfl, by decide +kernel, by decide +kernel⟩
theorem ok_found {f : Addr} {fd : FuncData} (F : L2.Fun K "_law_found_for" "_law_found_for" sFound f fd) (hm : mg "_law_found_for" = some (.ref f)) (kp : PySem.W.keepIn K (.ref f) = true) (bn : Binds K fd ["_law_at", "_law_edges", "_law_taken", "_law_seen"] []) :
    ∀ d : Nat, FnOk P w K mg base CX0 (d + 1) f fd ["_law_at", "_law_edges", "_law_taken", "_law_seen"] (spFound d)
  | 0 => ⟨fun vs H Q E h => (by obtain ⟨ed, tk, sn, a, Er, B, m, t, lt, S, rfl, _⟩ := h; rfl), fun A outer s H args us vs Q E _ _ _ _ h => by
      obtain ⟨ed, tk, sn, a, Er, B, m, t, lt, S, rfl, _, _, _, _, _, _, _, pre, h1, _⟩ := h
      have := nodup_below m S pre.nd pre.rng
      omega⟩
  | d + 1 => by
    have cS : Cal P w K mg base (d + 1) "_law_found_for" (spFound d) [] := ⟨⟨f, _, _, [], ok_found F hm kp bn d, hm, kp, bn, .nil⟩⟩
    refine F.ok scFound (fun vs H Q E h => ?_) (fun cdv A outer s H vs Q E hr h => ?_)
    · obtain ⟨ed, tk, sn, a, Er, B, m, t, lt, S, rfl, _⟩ := h
      rfl
    · obtain ⟨ed, tk, sn, a, Er, B, m, t, lt, S, rfl, lB, lm, nts, ha, rows, dt, hsn, pre, fuel, yes, no⟩ := h
      have hu1 := hu_of hr
      refine ⟨_, pss_cons (ps_for PassesOwn.never rfl (pi_list (pe_ix ix_list (pv 1) (pv 0) (fun _ _ => rfl))) (pg_name (i := 4) scFound.nd rfl (Or.inl rfl))
      (pss_one (ps_if (pt_cmpR op_notIn_seq (pv 4) (pv 3) (by rfl)) (pss_cons (ps_expr (pe_bm PySem.F.plainAttrs_list PySem.F.slot_list_append PySem.F.type_list_append mt_append (pv 3) (pa_cons (pv 4) pa_nil)))
      (pss_one (ps_if (PW.pt (pw_or (pt_cmp (pc_dnotin hu1 (pv 4) (pv 2)) (by rfl)) (pw_or1 (pt_val (C8.pe_c cS hr (by omega) (by rfl) (pa_cons (pe_dget hu1 (pv 2) (pv 4) (fun _ _ => rfl)) (pa_cons (pv 1) (pa_cons (pv 2) (pa_cons (pv 3) pa_nil))))))))) (pss_cons (ps_dput hu1 (pv 2) (pv 4) (pv 0) rfl)
      (pss_one (ps_ret pe_bl))) pss_nil))) pss_nil)))
      (pss_one (ps_ret pe_bl)), ?_⟩
      obtain ⟨an, rfl⟩ : ∃ an : Nat, a = (an : Int) := ⟨a.toNat, by omega⟩
      obtain ⟨rs, hed, lrs, hrs, inN, few⟩ := id rows
      have hed' := (mask_some hed).2
      have ltr : an < rs.length := by omega
      have gr : (rs.map V.ref)[an]? = some (.ref rs[an]) := by rw [List.getElem?_map, List.getElem?_eq_getElem ltr]; rfl
      obtain ⟨nrow, hrow⟩ := mask_some (hrs an _ (List.getElem?_eq_getElem ltr))
      generalize rs[an] = row at *
      have lrow := few (an : Int)
      have stay : ∀ {J : Hp} {q : Addr} {xs : List V}, KeepD tk sn H J → q ≠ sn → H q = some (.lst xs) → J q = some (.lst xs) := fun kj n hq => kj _ _ (fun z => by obtain ⟨kv, e, _⟩ := dt; rw [z, e] at hq; cases hq) n hq
      refine ⟨_, rfl, _, rfl, ed, _, _, _, rfl, rfl, SqL.of hed', at_of (j := an) rfl gr, row, rfl, ⟨_, SqL.of hrow⟩, ?_⟩
      refine for_it walk_list (fun i σ' J => ∃ (S' : List Int) (v4 : Option V), σ' = [some (.int (an : Int)), some (.ref ed), some (.ref tk), some (.ref sn), v4] ∧ KeepD tk sn H J ∧ J tk = H tk ∧ J sn = some (.lst (S'.map V.int)) ∧ FNo Er m t S ((Er (an : Int)).take i) S')
        ⟨S, _, rfl, KeepD.refl, rfl, hsn, by rw [List.take_zero]; exact pre.start⟩ (fun i σ' J _ ⟨_, _, _, kj, _⟩ => SqL.of (stay kj nrow hrow)) ?_ ?_
      · rintro i y σ' J J' hi ⟨S', v4, rfl, kp, etk, hs', fn⟩ ⟨rfl, hy⟩
        obtain ⟨q, hq, rfl⟩ : ∃ q, (Er (an : Int))[i]? = some q ∧ y = .int q := by
          rw [List.getElem?_map] at hy
          cases e : (Er (an : Int))[i]? with
          | none => rw [e] at hy; cases hy
          | some q => rw [e] at hy; cases hy; exact ⟨q, rfl, rfl⟩
        have qE := List.mem_of_getElem? hq
        have qN := inN _ q qE
        have tk1 : (Er (an : Int)).take (i + 1) = (Er (an : Int)).take i ++ [q] := by rw [List.take_succ, hq]; rfl
        have dtJ : DI J' tk m B t lt := dt.frame etk
        refine ⟨_, rfl, _, rfl, sn, _, rfl, .inl (SqL.of hs'), rfl, flat_ints _, _, rfl, ?_⟩
        have ein : (if (true : Bool) = true then !inV (V.int q) (S'.map V.int) else inV (V.int q) (S'.map V.int)) = !decide (q ∈ S') := by
          rw [if_pos rfl, inV_ints]
        rw [ein]
        by_cases hp : q ∈ S'
        · rw [decide_eq_true hp]
          exact iteF ⟨S', _, rfl, kp, etk, hs', by rw [tk1]; exact fn.seen hp⟩
        · rw [decide_eq_false hp]
          have lS := nodup_below m S' fn.nd fn.rng
          refine iteT ⟨_, rfl, .inl ⟨rfl, _, SqL.of hs'⟩, _, rfl, sn, _, _, rfl, rfl, hs', small1000 (by rw [List.length_map]; omega), ?_⟩
          have e2 : S'.map V.int ++ [V.int q] = (S' ++ [q]).map V.int := by rw [List.map_append]; rfl
          rw [e2]
          have kp1 : KeepD tk sn H (upd J' sn (.lst ((S' ++ [q]).map V.int))) := fun b o n1 n2 hb => by rw [upd_ne n2]; exact kp b o n1 n2 hb
          have etk1 : (upd J' sn (.lst ((S' ++ [q]).map V.int))) tk = H tk := by rw [upd_ne nts]; exact etk
          have hs1 : (upd J' sn (.lst ((S' ++ [q]).map V.int))) sn = some (.lst ((S' ++ [q]).map V.int)) := upd_same
          generalize upd J' sn (.lst ((S' ++ [q]).map V.int)) = J1 at *
          have dt1 : DI J1 tk m B t lt := dt.frame etk1
          have store : ∀ (J2 : Hp) (t2 : PF) (l2 : Nat), KeepD tk sn H J2 → DI J2 tk m B t2 l2 → FYes Er (an : Int) t S (fset t2 q (an : Int)) → ∃ kvs, DPut J2 tk (.int q) (.int (an : Int)) (upd J2 tk (.dK kvs)) ∧ Q (.bl true) (upd J2 tk (.dK kvs)) := fun J2 t2 l2 kp2 d2 fy => by
            obtain ⟨kvs, l3, put, d3, _⟩ := d2.put (by omega) qN ha
            exact ⟨kvs, put, yes _ l3 _ (fun b o n1 n2 hb => by rw [upd_ne n1]; exact kp2 b o n1 n2 hb) d3 fy⟩
          refine ⟨_, rfl, _, rfl, tk, _, rfl, dt1.get q, _, rfl, ?_⟩
          cases ht : t q with
          | none =>
            obtain ⟨kvs, put, fin⟩ := store J1 t lt kp1 dt1 (fn.take pre hp qE ht)
            exact iteT (iteT ⟨_, rfl, _, rfl, _, rfl, _, _, rfl, put, fin⟩)
          | some b =>
            have rb := dt.rng ht
            have gq := dt1.get q
            rw [ht] at gq
            refine iteF ⟨_, rfl, _, rfl, tk, _, rfl, gq, _, rfl, _, rfl, _, rfl, ed, tk, sn, b, Er, B, m, t, lt, S' ++ [q], rfl, lB, lm, nts, rb.2, rows_mask kp1 dt rows, dt1, hs1, fn.ask pre hp qN ht, ?_, fun t2 l2 J2 kp2 d2 fy => ?_, fun S2 J2 kp2 etk2 hs2 fn2 => ?_⟩
            · have := nodup_sub pre.nd fn.sub
              rw [List.length_append, List.length_singleton]
              omega
            · obtain ⟨kvs, put, fin⟩ := store J2 t2 l2 (kp1.trans kp2) d2 (fn.yes pre hp qE ht fy)
              exact ⟨_, rfl, iteT ⟨_, rfl, _, rfl, _, rfl, _, _, rfl, put, fin⟩⟩
            · exact ⟨_, rfl, iteF ⟨S2, _, rfl, kp1.trans kp2, etk2.trans etk1, hs2, by rw [tk1]; exact fn.no ht fn2⟩⟩
      · rintro σ' J ⟨S', v4, rfl, kp, etk, hs', fn⟩
        rw [List.length_map, List.take_length] at fn
        exact no S' J kp etk hs' fn
end
end E47.J

set_option Elab.async false
set_option linter.all false
set_option maxRecDepth 100000
set_option maxHeartbeats 4000000
set_option pp.maxSteps 100
/-! _law_all_found, _law_is_there. -/
namespace E47.J
open PySem L2
abbrev sAllF : Stmt := top 34
abbrev sThere : Stmt := top 35
def spAllF : Sp := fun vs H Q _ => ∃ (o1 o2 : Addr) (L M : List Bar) (e : Int), vs = [.ref o1, .ref o2, .int e] ∧ BL H o1 L ∧ BL H o2 M ∧ L.length ≤ 20 ∧ M.length ≤ 20 ∧ ∀ (bb : Bool) (H' : Hp), Ext H H' → (bb = true → SideP L M e) → (bb = false → ∃ as, Hall (fitF L M e) (longA L e) as) → Q (.bl bb) H'
def spThere : Sp := fun vs H Q _ => ∃ (o1 o2 : Addr) (L M : List Bar) (e : Int), vs = [.ref o1, .ref o2, .int e] ∧ BL H o1 L ∧ BL H o2 M ∧ L.length ≤ 20 ∧ M.length ≤ 20 ∧ ∀ (bb : Bool) (H' : Hp), Ext H H' → (bb = true ↔ ∃ t h, Match L M e t h) → Q (.bl bb) H'
theorem longA_at {L : List Bar} {e : Int} {j : Nat} {x : Bar} (h : L[j]? = some x) : longA L e (j : Int) = !shortB x e := by
  cases hs : shortB x e with
  | false => exact longA_iff.mpr (mem_longN.mpr ⟨j, x, rfl, h, hs⟩)
  | true =>
    cases hl : longA L e (j : Int) with
    | false => rfl
    | true =>
      obtain ⟨i, y, e1, hy, hs'⟩ := mem_longN.mp (longA_iff.mp hl)
      have : i = j := by omega
      subst this
      rw [h] at hy
      cases hy
      rw [hs] at hs'
      cases hs'
section
variable {P : Program} {w : World} {K : PySem.W.Frag} {mg : Str → Option Value} {base : Heap}
abbrev allfN : List Str := ["_law_one", "_law_other", "_law_e", "_law_here", "_law_to", "_law_bar", "_law_edges", "_law_taken", "_law_at"]
theorem scAllF : FnScope allfN ["_law_one", "_law_other", "_law_e"] (defScope sAllF) := ⟨rfl, rfl, rfl, by decide +kernel, rfl, by decide +kernel, by decide +kernel⟩
theorem ok_allF {f : Addr} {fd : FuncData} (F : L2.Fun K "_law_all_found" "_law_all_found" sAllF f fd) (T : Gb mg) (cF : Cal P w K mg base 1 "_law_fits" spFit []) (cL : Cal P w K mg base 1 "_law_is_long" spIsLong []) (cG : Cal P w K mg base 22 "_law_found_for" (spFound 21) []) :
    FnOk P w K mg base CX0 23 f fd ["_law_one", "_law_other", "_law_e"] spAllF := by
  refine F.ok scAllF (fun vs H Q E h => ?_) (fun cdv A outer s H vs Q E hr h => ?_)
  · obtain ⟨o1, o2, L, M, e, rfl, _⟩ := h
    rfl
  · obtain ⟨o1, o2, L, M, e, rfl, ⟨as, sq, bt⟩, ⟨bs, sq2, bt2⟩, lL, lM, k⟩ := h
    refine ⟨_, C8.pss_cut (ps_setLc (i := 6) (own := [("_law_here", 3)]) (g := gName 3) (tt := tYes) rfl scAllF.nd rfl rfl (sw_true rfl rfl rfl (by decide +kernel)) (pi_list (pv 0)) (blkOk_by (N := allfN) (sc := defScope sAllF) (by decide +kernel)) (fun _ _ _ _ _ => (pg_name (i := 3) scAllF.nd rfl (Or.inr rfl))) (fun _ _ _ _ _ => pts_nil) (fun _ _ _ _ _ => (pe_lc (own := [("_law_to", 4), ("_law_bar", 5)]) (g := gTup K 2 (gCons (gName 4) (gCons (gName 5) gNil))) (wi := iEnum K (tCons (tVar 1) tNil)) rfl scAllF.nd (pi_enum (by rfl) T.enum (pa_cons (pv 1) pa_nil)) (blkOk_by (by first | kernel_rfl | rfl)) (fun _ _ _ _ _ => (pg_tup rfl (pgs_cons (pg_name (i := 4) scAllF.nd rfl (Or.inl rfl)) (pgs_cons (pg_name (i := 5) scAllF.nd rfl (Or.inl rfl)) pgs_nil)))) (fun _ _ _ _ _ => (pts_one (pt_val (C8.pe_c cF hr (by decide) (by rfl) (pa_cons (pv 3) (pa_cons (pv 5) (pa_cons (pv 2) pa_nil))))))) (fun _ _ _ _ _ => (pv 4)))))
      (pss_cons (ps_set (i := 7) scAllF.nd rfl (Or.inl rfl) pe_dnewK)
      (pss_cons (ps_for PassesOwn.never rfl (pi_enum (by rfl) T.enum (pa_cons (pv 0) pa_nil)) (pg_tup rfl (pgs_cons (pg_name (i := 8) scAllF.nd rfl (Or.inl rfl)) (pgs_cons (pg_name (i := 5) scAllF.nd rfl (Or.inl rfl)) pgs_nil)))
      (pss_one (ps_if (PW.pt (pw_and (pt_val (C8.pe_c cL hr (by decide) (by rfl) (pa_cons (pv 5) (pa_cons (pv 2) pa_nil)))) (pw_and1 (pt_not (pt_val (C8.pe_c cG hr (by decide) (by rfl) (pa_cons (pv 8) (pa_cons (pv 6) (pa_cons (pv 7) (pa_cons (pe_lst pa_nil) pa_nil)))))))))) (pss_one (ps_ret pe_bl)) pss_nil)))
      (pss_one (ps_ret pe_bl)))), ?_⟩
    have la := bt.len
    have lb := bt2.len
    refine ⟨fun σ' J => ∃ ed : Addr, σ' = [some (.ref o1), some (.ref o2), some (.int e), Option.none, Option.none, Option.none, some (.ref ed), Option.none, Option.none] ∧ Ext H J ∧ FitsAt J ed L M e, ?_, ?_⟩
    · refine ⟨_, rfl, o1, rfl, ⟨_, SqL.of sq⟩, fun D nD => ?_⟩
      refine lc_it walk_list (fun j H2 => Ext H H2 ∧ ∃ rs : List Addr, H2 D = some (.lst (rs.map V.ref)) ∧ Paired (fun r b => r ≠ D ∧ H2 r = some (.lst ((fitIx b M e M.length).map V.int))) rs (L.take j)) ⟨Ext.upd nD, [], upd_same, .nil⟩ (fun j H2 _ z => SqL.of (z.1 _ _ sq)) ?_ ?_
      · rintro j x H2 H3 hj ⟨x2, rs, hD, pr⟩ ⟨rfl, hy⟩
        obtain ⟨b, hja, rfl⟩ := ref_get hy
        obtain ⟨q, hq, hb⟩ := bt.get hja
        have lj := (List.getElem?_eq_some_iff.mp hja).1
        have lr : rs.length ≤ j := by
          rw [Paired.length pr, List.length_take]
          omega
        refine ⟨rfl, tyes_in ?_⟩
        refine ⟨_, rfl, o2, _, rfl, SqL.of (x2 _ _ sq2), fun D2 nD2 => ?_⟩
        have nDD : D2 ≠ D := fun z => by rw [z, hD] at nD2; cases nD2
        refine lc_it walk_enum (fun i H4 => Ext H3 H4 ∧ H4 D2 = some (.lst ((fitIx q M e i).map V.int))) ⟨Ext.upd nD2, upd_same⟩ (fun i H4 _ z => SqL.of (z.1 _ _ (x2 _ _ sq2))) ?_ ?_
        · rintro i x H4 H5 hi ⟨x4, hD2⟩ ⟨t, u, y, rfl, nt, rfl, hu, hy2⟩
          cases hu
          obtain ⟨c, hic, rfl⟩ := ref_get hy2
          obtain ⟨p, hp, hc⟩ := bt2.get hic
          have li := (List.getElem?_eq_some_iff.mp hic).1
          have xt := Ext.upd (o := .tup [.int (i : Nat), .ref c]) nt
          have st := fitIx_succ (b := q) (e := e) hp
          have ll := fitIx_len q M e i
          refine ⟨t, _, rfl, SqT.of upd_same, rfl, _, _, rfl, _, _, rfl, rfl, rfl, ?_⟩
          refine ⟨_, rfl, _, rfl, _, rfl, b, c, q, p, e, rfl, xt _ _ (x4 _ _ (x2 _ _ hb)), xt _ _ (x4 _ _ (x2 _ _ hc)), _, rfl, ?_⟩
          cases hs : fitB q p e with
          | false =>
            refine iteF ⟨x4.trans xt, ?_⟩
            rw [st, hs, xt _ _ hD2]
            simp
          | true =>
            refine iteT ⟨_, rfl, _, xt _ _ hD2, small1000 (by rw [List.length_map]; omega), fun c o' ho' => ?_, ?_⟩
            · rw [upd_ne (ne_of_none ho' nD2)]
              exact xt _ _ (x4 _ _ ho')
            · rw [upd_same, st, hs, List.map_append]
              rfl
        · rintro H4 ⟨x4, hD2⟩
          rw [List.length_map, lb] at hD2
          refine ⟨_, x4 _ _ hD, small1000 (by rw [List.length_map]; omega), fun c o' ho' => ?_, rs ++ [D2], ?_, ?_⟩
          · rw [upd_ne (ne_of_none ho' nD)]
            exact x4 _ _ (x2 _ _ ho')
          · rw [upd_same, List.map_append]
            rfl
          · rw [List.take_succ, hq]
            refine Paired.snoc (Paired.imp' (fun r b z => ⟨z.1, by rw [upd_ne z.1]; exact x4 _ _ z.2⟩) pr) ⟨nDD, by rw [upd_ne nDD]; exact hD2⟩
      · rintro H2 ⟨x2, rs, hD, pr⟩
        rw [List.length_map, la, List.take_of_length_le (Nat.le_refl _)] at pr
        exact ⟨D, rfl, x2, rs, hD, Paired.imp' (fun _ _ z => z.2) pr⟩
    rintro σ' H1 ⟨ed, rfl, x1, fits⟩
    intro tk ntk
    have d0 : DI (upd H1 tk (.dK [])) tk M.length L.length noF 0 := DI.new
    refine ⟨_, rfl, o1, _, rfl, SqL.of ((x1.trans (Ext.upd ntk)) _ _ sq), ?_⟩
    refine for_it walk_enum (fun j σ' J => ∃ (t : PF) (lt : Nat) (v3 v4 v5 v8 : Option V), σ' = [some (.ref o1), some (.ref o2), some (.int e), v3, v4, v5, some (.ref ed), some (.ref tk), v8] ∧ Ext H1 J ∧ DI J tk M.length L.length t lt ∧ E47.Upto (fitF L M e) (longA L e) j t)
      ⟨noF, 0, _, _, _, _, rfl, Ext.upd ntk, d0, E47.Upto.zero⟩ (fun j σ' J _ ⟨_, _, _, _, _, _, _, x, _⟩ => SqL.of (x _ _ (x1 _ _ sq))) ?_ ?_
    · rintro j z σ' J3 J4 hj ⟨t, lt, v3, v4, v5, v8, rfl, x3, dt, up⟩ ⟨t5, u5, y, rfl, nt5, rfl, hu5, hy⟩
      cases hu5
      obtain ⟨b, hb, rfl⟩ := ref_get hy
      obtain ⟨x, hx, hxt⟩ := bt.get hb
      have lj := (List.getElem?_eq_some_iff.mp hx).1
      have xt := Ext.upd (o := .tup [.int (j : Nat), .ref b]) nt5
      have x4 := x3.trans xt
      have ntk3 : J3 tk ≠ none := by obtain ⟨kv, e, _⟩ := dt; rw [e]; exact fun z => nomatch z
      have dt4 : DI (upd J3 t5 (.tup [.int (j : Nat), .ref b])) tk M.length L.length t lt := dt.frame (upd_ne fun z => ntk3 (by rw [z]; exact nt5))
      refine ⟨t5, _, rfl, SqT.of upd_same, rfl, _, _, rfl, _, _, rfl, rfl, ?_⟩
      generalize upd J3 t5 (.tup [.int (j : Nat), .ref b]) = J5 at *
      have hA := longA_at (e := e) hx
      have fin : ∀ (sn : Addr) (H' : Hp), J5 sn = none → KeepD tk sn (upd J5 sn (.lst [])) H' → Ext H1 H' := fun sn H' nsn kp c u hc => by
        have c1 : c ≠ tk := ne_of_none hc ntk
        have c2 : c ≠ sn := ne_of_none (x4 _ _ hc) nsn
        exact kp c u c1 c2 (by rw [upd_ne c2]; exact x4 _ _ hc)
      refine ⟨_, rfl, _, rfl, b, x, e, rfl, x4 _ _ (x1 _ _ hxt), _, rfl, ?_⟩
      cases hs : shortB x e with
      | true => exact iteF (iteF ⟨t, lt, _, _, _, _, rfl, x4, dt4, up.skip (by rw [hA, hs]; rfl)⟩)
      | false =>
        rw [hs] at hA
        have hA' : longA L e (j : Int) = true := hA
        refine iteT ⟨_, rfl, _, rfl, _, rfl, by show 0 ≤ sizeLine; decide, fun sn nsn => ?_⟩
        have nts : tk ≠ sn := fun z => by
          obtain ⟨kv, e', _⟩ := dt4
          rw [z, nsn] at e'
          cases e'
        have xm : Ext H1 (Mask sn (upd J5 sn (.lst []))) := fun c u hc => by
          have c2 : c ≠ sn := ne_of_none (x4 _ _ hc) nsn
          exact mask_at c2 (by rw [upd_ne c2]; exact x4 _ _ hc)
        refine ⟨ed, tk, sn, (j : Int), fitF L M e, L.length, M.length, t, lt, [], rfl, by omega, by omega, nts, by omega, (fits.ext xm).rowsF lM, dt4.frame (upd_ne nts), upd_same, up.pre, by show M.length < 0 + 21; omega, fun t' lt' H' kp d fy => ?_, fun S' H' kp etk hs' fn => ?_⟩
        · exact ⟨_, rfl, iteF ⟨t', lt', _, _, _, _, rfl, fin sn H' nsn kp, d, up.yes hA' fy⟩⟩
        · exact ⟨_, rfl, iteT (k false H' (x1.trans (fin sn H' nsn kp)) (fun z => by cases z) fun _ => ⟨_, up.no hA' fn⟩)⟩
    · rintro σ' J3 ⟨t, lt, v3, v4, v5, v8, rfl, x3, dt, up⟩
      rw [List.length_map, la] at up
      exact k true J3 (x1.trans x3) (fun _ => up.side) fun z => by cases z
theorem scThere : FnScope ["_law_one", "_law_other", "_law_e"] ["_law_one", "_law_other", "_law_e"] (defScope sThere) := ⟨rfl, rfl, rfl, by decide +kernel, rfl, by decide +kernel, by decide +kernel⟩
theorem ok_there {f : Addr} {fd : FuncData} (F : L2.Fun K "_law_is_there" "_law_is_there" sThere f fd) (T : Gb mg) (cPd : Cal P w K mg base 8 "_law_paired" (spPaired 6) []) (cAF : Cal P w K mg base 23 "_law_all_found" spAllF []) :
    FnOk P w K mg base CX0 24 f fd ["_law_one", "_law_other", "_law_e"] spThere := by
  refine F.ok scThere (fun vs H Q E h => ?_) (fun cdv A outer s H vs Q E hr h => ?_)
  · obtain ⟨o1, o2, L, M, e, rfl, _⟩ := h
    rfl
  · obtain ⟨o1, o2, L, M, e, rfl, b1, b2, lL, lM, k⟩ := h
    refine ⟨_, C8.pss_cut (ps_if (PW.pt (pw_and (pt_cmpR op_lt (pe_callB call_len_seq (by rfl) T.len PySem.boot_len (pa_cons (pv 0) pa_nil)) pe_int (nomark _)) (pw_and1 (pt_cmpR op_lt (pe_callB call_len_seq (by rfl) T.len PySem.boot_len (pa_cons (pv 1) pa_nil)) pe_int (nomark _))))) (pss_one (ps_ret (C8.pe_c cPd hr (by decide) (by rfl) (pa_cons (pv 0) (pa_cons (pv 1) (pa_cons (pv 2) (pa_cons (pe_lst pa_nil) (pa_cons pe_int pa_nil)))))))) pss_nil)
      (pss_one (ps_ret (pe_and (C8.pe_c cAF hr (by decide) (by rfl) (pa_cons (pv 0) (pa_cons (pv 1) (pa_cons (pv 2) pa_nil)))) (pe_one (C8.pe_c cAF hr (by decide) (by rfl) (pa_cons (pv 1) (pa_cons (pv 0) (pa_cons (pv 2) pa_nil)))))))), ?_⟩
    have b1' := b1
    have b2' := b2
    obtain ⟨as, sq, bt⟩ := b1
    obtain ⟨bs, sq2, bt2⟩ := b2
    have la := bt.len
    have lb := bt2.len
    refine ⟨fun σ' J => σ' = [some (.ref o1), some (.ref o2), some (.int e)] ∧ Ext H J, ?_, ?_⟩
    · refine ⟨_, rfl, o1, _, rfl, .inl (SqL.of sq), _, _, rfl, rfl, _, rfl, ?_⟩
      refine ite2 (fun h1 => ?_) (fun _ => iteF ⟨rfl, Ext.rfl'⟩)
      refine ⟨_, rfl, o2, _, rfl, .inl (SqL.of sq2), _, _, rfl, rfl, _, rfl, ?_⟩
      refine ite2 (fun h2 => ?_) (fun _ => ⟨rfl, Ext.rfl'⟩)
      refine ⟨_, rfl, _, rfl, _, rfl, by show 0 ≤ sizeLine; decide, fun l nl => ?_⟩
      have x1 := Ext.upd (o := .lst []) nl
      refine ⟨o1, o2, l, L, M, e, [], 0, rfl, b1'.ext x1, b2'.ext x1, lL, lM, upd_same, Nat.le_refl _, Nat.zero_le _, ?_, fun bb H2 hbb x2 => k bb H2 (x1.trans x2) ?_⟩
      · have := of_decide_eq_true h1
        rw [List.length_map] at this
        omega
      · rw [List.drop_zero] at hbb
        exact hbb.trans pex_iff
    · rintro σ' J ⟨rfl, xJ⟩
      refine ⟨_, rfl, _, rfl, _, rfl, o1, o2, L, M, e, rfl, b1'.ext xJ, b2'.ext xJ, lL, lM, fun bb H2 x2 y n => ⟨_, rfl, ?_⟩⟩
      have x02 := xJ.trans x2
      cases bb with
      | false =>
        obtain ⟨as, ha⟩ := n rfl
        exact iteF (k false H2 x02 ⟨fun z => (by cases z), fun z => absurd ((sides_iff lL lM).mpr z).1 (side_no ha)⟩)
      | true =>
        refine iteT ⟨_, rfl, _, rfl, _, rfl, o2, o1, M, L, e, rfl, b2'.ext x02, b1'.ext x02, lM, lL, fun bb H3 x3 y' n' => ?_⟩
        refine k bb H3 (x02.trans x3) ⟨fun z => (sides_iff lL lM).mp ⟨y rfl, y' z⟩, fun z => ?_⟩
        cases bb with
        | true => rfl
        | false =>
          obtain ⟨as, ha⟩ := n' rfl
          exact absurd ((sides_iff lL lM).mpr z).2 (side_no ha)
end
end E47.J

set_option Elab.async false
set_option linter.all false
set_option maxRecDepth 100000
set_option maxHeartbeats 4000000
/-! The least within which there is a pairing. -/
namespace E47
open PySem L2
def Exi (L M : List Bar) (e : Int) : Prop := ∃ t h, Match L M e t h
theorem Exi.symm {L M : List Bar} {e : Int} (x : Exi L M e) : Exi M L e := let ⟨t, h, m⟩ := x; ⟨h, t, m.symm⟩
/-- what fits within e fits within e', what is short for e is short for e' -/
structure Wider (L M : List Bar) (e e' : Int) : Prop where
  fit : ∀ x ∈ L, ∀ y ∈ M, fitB x y e = true → fitB x y e' = true
  short : ∀ x, x ∈ L ∨ x ∈ M → shortB x e = true → shortB x e' = true
theorem Exi.wider {L M : List Bar} {e e' : Int} (w : Wider L M e e') : Exi L M e → Exi L M e' := fun ⟨t, h, m⟩ => by
  have long : ∀ (X : List Bar), (∀ x ∈ X, shortB x e = true → shortB x e' = true) → ∀ b, longA X e' b = true → longA X e b = true := fun X sh b hb => by
    obtain ⟨i, x, rfl, hx, hs⟩ := mem_longN.mp (longA_iff.mp hb)
    refine longA_iff.mpr (mem_longN.mpr ⟨i, x, rfl, hx, ?_⟩)
    cases q : shortB x e with
    | false => rfl
    | true =>
      rw [sh x (List.mem_of_getElem? hx) q] at hs
      cases hs
  refine ⟨t, h, m.both, fun b n z => ?_, fun b hb => m.c1 b (long L (fun x hx => w.short x (.inl hx)) b hb), fun n hn => m.c2 n (long M (fun x hx => w.short x (.inr hx)) n hn)⟩
  obtain ⟨i, j, x, y, h1, h2, hx, hy, hf⟩ := mem_fitF.mp (m.edges b n z)
  exact mem_fitF.mpr ⟨i, j, x, y, h1, h2, hx, hy, w.fit x (List.mem_of_getElem? hx) y (List.mem_of_getElem? hy) hf⟩
def absI (d : Int) : Int := if d < 0 then -d else d
theorem fitB_eq (x y : Bar) (e : Int) : fitB x y e = true ↔ absI (x.1 - y.1) ≤ e ∧ ((x.2 = none ∧ y.2 = none) ∨ ∃ g h, x.2 = some g ∧ y.2 = some h ∧ absI (g - h) ≤ e) := by
  obtain ⟨a, g⟩ := x
  obtain ⟨b, h⟩ := y
  show (if absI (a - b) > e then false else _) = true ↔ absI (a - b) ≤ e ∧ _
  by_cases c : absI (a - b) > e
  · rw [if_pos c]
    constructor
    · intro z; cases z
    · rintro ⟨z, _⟩; omega
  · rw [if_neg c]
    cases g with
    | none => cases h with
      | none => exact ⟨fun _ => ⟨by omega, .inl ⟨rfl, rfl⟩⟩, fun _ => rfl⟩
      | some h => exact ⟨fun z => (by cases z), fun z => (by obtain ⟨_, ⟨_, q⟩ | ⟨_, _, q, _⟩⟩ := z <;> cases q)⟩
    | some g => cases h with
      | none => exact ⟨fun z => (by cases z), fun z => (by obtain ⟨_, ⟨q, _⟩ | ⟨_, _, _, q, _⟩⟩ := z <;> cases q)⟩
      | some h =>
        show decide (absI (g - h) ≤ e) = true ↔ _
        rw [decide_eq_true_iff]
        exact ⟨fun z => ⟨by omega, .inr ⟨g, h, rfl, rfl, z⟩⟩, fun z => (by
          obtain ⟨_, ⟨q, _⟩ | ⟨g', h', q1, q2, q3⟩⟩ := z
          · cases q
          · cases q1; cases q2; exact q3)⟩
theorem shortB_eq (x : Bar) (e : Int) : shortB x e = true ↔ ∃ g, x.2 = some g ∧ (g - x.1 + 1) / 2 ≤ e := by
  obtain ⟨a, g⟩ := x
  cases g with
  | none => exact ⟨fun z => (by cases z), fun ⟨_, q, _⟩ => (by cases q)⟩
  | some g =>
    show decide (g - a ≤ 2 * e) = true ↔ _
    rw [decide_eq_true_iff]
    exact ⟨fun z => ⟨g, rfl, by show (g - a + 1) / 2 ≤ e; omega⟩, fun ⟨g', q, z⟩ => (by cases q; have z' : (g - a + 1) / 2 ≤ e := z; omega)⟩
theorem Exi.mono {L M : List Bar} {e e' : Int} (h : e ≤ e') : Exi L M e → Exi L M e' := Exi.wider ⟨fun x _ y _ z => by
  rw [fitB_eq] at z ⊢
  refine ⟨by omega, z.2.imp id fun ⟨g, h', q1, q2, q3⟩ => ⟨g, h', q1, q2, by omega⟩⟩, fun x _ z => by
  rw [shortB_eq] at z ⊢
  obtain ⟨g, q1, q2⟩ := z
  exact ⟨g, q1, by omega⟩⟩
/-- the numbers at which something begins to fit, or to be short -/
structure Steps (L M : List Bar) (S : List Int) : Prop where
  b : ∀ x ∈ L, ∀ y ∈ M, absI (x.1 - y.1) ∈ S
  g : ∀ x ∈ L, ∀ y ∈ M, ∀ g h, x.2 = some g → y.2 = some h → absI (g - h) ∈ S
  s : ∀ x, x ∈ L ∨ x ∈ M → ∀ g, x.2 = some g → (g - x.1 + 1) / 2 ∈ S
theorem Exi.same {L M : List Bar} {S : List Int} {e e' : Int} (st : Steps L M S) (same : ∀ s ∈ S, s ≤ e → s ≤ e') : Exi L M e → Exi L M e' := Exi.wider ⟨fun x hx y hy z => by
  rw [fitB_eq] at z ⊢
  refine ⟨same _ (st.b x hx y hy) z.1, z.2.imp id fun ⟨g, h', q1, q2, q3⟩ => ⟨g, h', q1, q2, same _ (st.g x hx y hy g h' q1 q2) q3⟩⟩, fun x hx z => by
  rw [shortB_eq] at z ⊢
  obtain ⟨g, q1, q2⟩ := z
  exact ⟨g, q1, same _ (st.s x hx g q1) q2⟩⟩
/-- the least, if there is one -/
def Least (L M : List Bar) : Option Int → Prop
  | none => ¬ Exi L M 2000
  | some n => 0 ≤ n ∧ n ≤ 2000 ∧ Exi L M n ∧ ∀ e, 0 ≤ e → e < n → ¬ Exi L M e
theorem Least.symm {L M : List Bar} : ∀ {o : Option Int}, Least L M o → Least M L o
  | none, h => fun z => h z.symm
  | some _, ⟨h1, h2, h3, h4⟩ => ⟨h1, h2, h3.symm, fun e a b z => h4 e a b z.symm⟩
theorem Least.uniq {L M : List Bar} : ∀ {o o' : Option Int}, Least L M o → Least L M o' → o = o'
  | none, none, _, _ => rfl
  | none, some n, h, ⟨_, h2, h3, _⟩ => absurd (h3.mono h2) h
  | some n, none, ⟨_, h2, h3, _⟩, h => absurd (h3.mono h2) h
  | some n, some m, ⟨a1, _, a3, a4⟩, ⟨b1, _, b3, b4⟩ => by
    by_cases c : n < m
    · exact absurd a3 (b4 n a1 c)
    · by_cases c2 : m < n
      · exact absurd b3 (a4 m b1 c2)
      · rw [show n = m by omega]
/-- the least is a step -/
theorem least_step {L M : List Bar} {ns : List Int} {k : Nat} {n : Int} (st : Steps L M ns) (asc : ns.Pairwise (· < ·)) (zero : 0 ∈ ns) (rng : ∀ s ∈ ns, 0 ≤ s ∧ s ≤ 2000) (hk : ns[k]? = some n) (yes : Exi L M n) (no : ∀ (j : Nat) (p : Int), j < k → ns[j]? = some p → ¬ Exi L M p) : Least L M (some n) := by
  have rn := rng n (List.mem_of_getElem? hk)
  refine ⟨rn.1, rn.2, yes, fun e e0 en z => ?_⟩
  have mono : ∀ (i j : Nat) (a b : Int), ns[i]? = some a → ns[j]? = some b → i < j → a < b := fun i j a b hi hj ij => by
    obtain ⟨h1, e1⟩ := List.getElem?_eq_some_iff.mp hi
    obtain ⟨h2, e2⟩ := List.getElem?_eq_some_iff.mp hj
    have := List.pairwise_iff_getElem.mp asc i j h1 h2 ij
    rw [e1, e2] at this
    exact this
  cases k with
  | zero =>
    obtain ⟨i, hi⟩ := List.mem_iff_getElem?.mp zero
    cases i with
    | zero =>
      rw [hk] at hi
      cases hi
      omega
    | succ i =>
      have := mono 0 (i + 1) n 0 hk hi (Nat.succ_pos i)
      omega
  | succ k =>
    have lk := (List.getElem?_eq_some_iff.mp hk).1
    have hp : ns[k]? = some ns[k] := List.getElem?_eq_getElem (by omega)
    refine no k _ (Nat.lt_succ_self k) hp ?_
    refine z.same st fun s hs se => ?_
    obtain ⟨i, hi⟩ := List.mem_iff_getElem?.mp hs
    by_cases c : i ≤ k
    · by_cases c2 : i = k
      · subst c2
        rw [hi] at hp
        cases hp
        exact Int.le_refl _
      · have := mono i k s _ hi hp (by omega)
        omega
    · by_cases c2 : i = k + 1
      · subst c2
        rw [hk] at hi
        cases hi
        omega
      · have := mono (k + 1) i n s hk hi (by omega)
        omega
/-- no step beyond the last one -/
theorem least_none {L M : List Bar} {ns : List Int} {n : Int} (st : Steps L M ns) (last : ∀ s ∈ ns, s ≤ n) (no : ¬ Exi L M n) : Least L M none := fun z => no (z.same st fun s hs _ => last s hs)
/-- a list of the same bars in another order -/
theorem exi_perm {L : List Bar} {ks : List Nat} (nd : ks.Nodup) (all : ∀ i, i < L.length → i ∈ ks) (rng : ∀ i ∈ ks, i < L.length) : Exi L (ks.map fun i => L.getD i (0, none)) 0 := by
  let h : PF := fun n => if 0 ≤ n then (ks[n.toNat]?).map fun i : Nat => (i : Int) else none
  have hsome : ∀ n b, h n = some b → ∃ (j i : Nat), n = (j : Int) ∧ b = (i : Int) ∧ ks[j]? = some i := fun n b z => by
    have z' : (if 0 ≤ n then (ks[n.toNat]?).map fun i : Nat => (i : Int) else none) = some b := z
    by_cases c : 0 ≤ n
    · rw [if_pos c] at z'
      obtain ⟨i, hi, e⟩ := Option.map_eq_some_iff.mp z'
      exact ⟨n.toNat, i, by omega, e.symm, hi⟩
    · rw [if_neg c] at z'
      cases z'
  have hat : ∀ (j i : Nat), ks[j]? = some i → h (j : Int) = some (i : Int) := fun j i hj => by
    show (if (0 : Int) ≤ (j : Int) then (ks[((j : Int)).toNat]?).map fun i : Nat => (i : Int) else none) = _
    rw [if_pos (Int.natCast_nonneg j)]
    have e1 : ((j : Int)).toNat = j := rfl
    rw [e1, hj]
    rfl
  have inj : ∀ b b' n, h b = some n → h b' = some n → b = b' := fun b b' n h1 h2 => by
    obtain ⟨j, i, rfl, rfl, hj⟩ := hsome _ _ h1
    obtain ⟨j', i', rfl, e, hj'⟩ := hsome _ _ h2
    have : i = i' := by omega
    subst this
    obtain ⟨l1, e1⟩ := List.getElem?_eq_some_iff.mp hj
    obtain ⟨l2, e2⟩ := List.getElem?_eq_some_iff.mp hj'
    have nn := List.pairwise_iff_getElem.mp nd
    have : j = j' := by
      by_cases c : j < j'
      · exact absurd (e1.trans e2.symm) (nn j j' l1 l2 c)
      · by_cases c2 : j' < j
        · exact absurd (e2.trans e1.symm) (nn j' j l2 l1 c2)
        · omega
    rw [this]
  have fitx : ∀ x : Bar, fitB x x 0 = true := fun x => by
    rw [fitB_eq]
    refine ⟨by unfold absI; rw [Int.sub_self]; decide, ?_⟩
    cases hx : x.2 with
    | none => exact .inl ⟨rfl, rfl⟩
    | some g => exact .inr ⟨g, g, rfl, rfl, by unfold absI; rw [Int.sub_self]; decide⟩
  have key : ∀ (j i : Nat), ks[j]? = some i → ∃ x, L[i]? = some x ∧ (ks.map fun i => L.getD i (0, none))[j]? = some x := fun j i hj => by
    have li := rng i (List.mem_of_getElem? hj)
    refine ⟨L[i], List.getElem?_eq_getElem li, ?_⟩
    rw [List.getElem?_map, hj]
    show some (L.getD i (0, none)) = _
    rw [List.getD_eq_getElem?_getD, List.getElem?_eq_getElem li]
    rfl
  refine ⟨inv h, h, (inv_both inj).symm, fun b n z => ?_, fun b hb => ?_, fun n hn => ?_⟩
  · obtain ⟨j, i, rfl, rfl, hj⟩ := hsome _ _ (inv_some z)
    obtain ⟨x, h1, h2⟩ := key j i hj
    exact mem_fitF.mpr ⟨i, j, x, x, rfl, rfl, h1, h2, fitx x⟩
  · obtain ⟨i, x, rfl, hx, _⟩ := mem_longN.mp (longA_iff.mp hb)
    obtain ⟨j, hj⟩ := List.mem_iff_getElem?.mp (all i (List.getElem?_eq_some_iff.mp hx).1)
    obtain ⟨n, h1, _⟩ := inv_of (hat j i hj)
    rw [h1]
    exact fun q => nomatch q
  · obtain ⟨j, x, rfl, hx, _⟩ := mem_longN.mp (longA_iff.mp hn)
    have lj := (List.getElem?_eq_some_iff.mp hx).1
    rw [List.length_map] at lj
    rw [hat j _ (List.getElem?_eq_getElem lj)]
    exact fun q => nomatch q
theorem least_zero {L M : List Bar} (h : Exi L M 0) : Least L M (some 0) := ⟨Int.le_refl 0, by decide, h, fun e h1 h2 => by omega⟩
end E47

set_option Elab.async false
set_option linter.all false
set_option maxRecDepth 100000
set_option maxHeartbeats 4000000
set_option pp.maxSteps 100
/-! nearest. -/
namespace E47
open PySem L2
abbrev sNearest : Stmt := top 25
def oV : Option Int → V
  | none => .non
  | some n => .int n
def spNear : Sp := fun vs H Q _ => ∃ (o1 o2 : Addr) (L M : List Bar) (o : Option Int), vs = [.ref o1, .ref o2] ∧ BS H o1 L ∧ BS H o2 M ∧ Right L ∧ Right M ∧ Least L M o ∧ ∀ H', Ext H H' → Q (oV o) H'
/-- what is told is a pairing, or there is none -/
theorem told_ex {n : Nat} {L M : List Bar} {e : Int} {H : Hp} {x y : V} (lL : L.length ≤ 20) (lM : M.length ≤ 20) : ∀ {r : PF ⊕ (Int × List Int)}, PobOk L M e r → Told n H x y r → (x = .non ∧ ¬ Exi L M e) ∨ ((∃ q, x = .ref q) ∧ Exi L M e)
  | .inl t, ⟨h, m⟩, ⟨_, q, e, _⟩ => .inr ⟨⟨q, e⟩, t, h, m⟩
  | .inr (s, as), ok, ⟨e, _⟩ => .inl ⟨e, ban_no lL lM ok⟩
section
variable {P : Program} {w : World} {K : PySem.W.Frag} {mg : Str → Option Value} {base : Heap}
abbrev nearN : List Str := ["one", "other", "least", "enough", "middle"]
theorem scNear : FnScope nearN ["one", "other"] (defScope sNearest) := ⟨rfl, rfl, rfl, by decide +kernel, rfl, by decide +kernel, by decide +kernel⟩
theorem ok_nearest {f fB NB : Addr} {fd fdB : FuncData} (F : L2.Fun K "nearest" "nearest" sNearest f fd) (B : BarC mg)
    (FB : FnOk P w K mg base (L2.CX P w) 4 fB fdB ["thing"] (spDemB NB)) (mB : mg "demand_bars" = some (.ref fB)) (kB : PySem.W.keepIn K (.ref fB) = true) (bB : Binds K fdB ["thing"] [])
    (cP : Cal P w K mg base 4 "paired_or_banned" spPob []) : FnOk P w K mg base (L2.CX P w) 6 f fd ["one", "other"] spNear := by
  obtain ⟨t2, h2⟩ := B.m2000
  refine F.okX scNear (fun vs H Q E h => ?_) (fun cdv A outer s H vs Q E hr h => ?_)
  · obtain ⟨o1, o2, L, M, o, rfl, _⟩ := h
    rfl
  · obtain ⟨o1, o2, L, M, o, rfl, b1, b2, rL, rM, lo, k⟩ := h
    obtain ⟨d1, p1, a1⟩ := pd_bars b1 rL
    obtain ⟨d2, p2, a2⟩ := pd_bars b2 rM
    refine ⟨_, pss_cons (ps_expr (pe_call FB (hr.mono (by decide)) (by rfl) mB kB bB .nil (passes_call (takes_of rfl rfl rfl rfl) (fun _ _ _ _ h => h)) (pa_cons (pv 0) pa_nil)))
      (pss_cons (ps_expr (pe_call FB (hr.mono (by decide)) (by rfl) mB kB bB .nil (passes_call (takes_of rfl rfl rfl rfl) (fun _ _ _ _ h => h)) (pa_cons (pv 1) pa_nil)))
      (pss_cons (ps_par (i := 2) (j := 3) rfl scNear.nd rfl rfl (by decide) rfl rfl (pa_cons pe_int (pa_cons (pe_glob (v := .int 2000) rfl h2 ⟨_, rfl⟩) pa_nil)) (by rfl))
      (pss_cons (ps_if (pt_cmpR op_isN (pe_ix ix_tup (C8.pe_c cP hr (by decide) (by rfl) (pa_cons (pv 0) (pa_cons (pv 1) (pa_cons (pv 3) pa_nil)))) pe_int (fun _ _ => rfl)) pe_non (nomark _)) (pss_one (ps_ret pe_non)) pss_nil)
      (C8.pss_cut (ps_while (passes_of rfl) (pt_cmpR op_lt (pv 2) (pv 3) (nomark _))
      (pss_cons (ps_set (i := 4) scNear.nd rfl (Or.inl rfl) (pe_op op_fdiv (pe_op op_add (pv 2) (pv 3)) pe_int))
      (pss_one (ps_if (pt_cmpR op_isN (pe_ix ix_tup (C8.pe_c cP hr (by decide) (by rfl) (pa_cons (pv 0) (pa_cons (pv 1) (pa_cons (pv 4) pa_nil)))) pe_int (fun _ _ => rfl)) pe_non (nomark _)) (pss_one (ps_set (i := 2) scNear.nd rfl (Or.inl rfl) (pe_op op_add (pv 4) pe_int))) (pss_one (ps_set (i := 3) scNear.nd rfl (Or.inl rfl) (pv 4)))))))
      (pss_one (ps_ret (pv 2))))))), ?_⟩
    refine ⟨_, rfl, .ref o1, d1, rfl, p1, (fun z => by rw [a1] at z; cases z), fun _ H1 x1 => ?_⟩
    refine ⟨_, rfl, .ref o2, d2, rfl, p2.ext x1, (fun z => by rw [a2] at z; cases z), fun _ H2 x2 => ?_⟩
    have x12 := x1.trans x2
    obtain ⟨r0, pr0, ok0⟩ := pob_ok L M 2000 rL.1 rM.1
    refine ⟨_, _, rfl, ?_⟩
    refine ⟨_, rfl, _, rfl, _, rfl, o1, o2, L, M, 2000, r0, rfl, b1.ext x12, b2.ext x12, rL.1, rM.1, pr0, fun p v u H3 x3 hp td => ?_⟩
    have x13 := x12.trans x3
    refine ⟨p, _, _, _, rfl, rfl, SqT.of hp, rfl, rfl, _, rfl, ?_⟩
    have nn : ∀ q : Addr, decide (V.ref q = V.non) = false := fun q => decide_eq_false fun z => nomatch z
    rcases told_ex rL.1 rM.1 ok0 td with ⟨rfl, no⟩ | ⟨⟨q, rfl⟩, yes⟩
    · refine iteT ?_
      have e := Least.uniq lo (show Least L M none from no)
      subst e
      exact k _ x13
    have dn := nn q
    refine ite2 (fun z => absurd (z.symm.trans dn) (by decide)) (fun _ => ?_)
    refine ⟨fun σ' J => ∃ (a : Int) (v3 v4 : Option V), σ' = [some (.ref o1), some (.ref o2), some (.int a), v3, v4] ∧ Ext H J ∧ Least L M (some a), ?_, ?_⟩
    · refine ⟨fun m σ' J => ∃ (a b : Int) (v4 : Option V), σ' = [some (.ref o1), some (.ref o2), some (.int a), some (.int b), v4] ∧ Ext H J ∧ m = (b - a).toNat ∧ 0 ≤ a ∧ a ≤ b ∧ b ≤ 2000 ∧ Exi L M b ∧ ∀ e, 0 ≤ e → e < a → ¬ Exi L M e, ⟨_, 0, 2000, _, rfl, x13, rfl, by decide, by decide, by decide, yes, fun e h1 h2 => by omega⟩, ?_⟩
      rintro m σ' J ⟨a, b, v4, rfl, xJ, rfl, a0, ab', b2000, yb, na⟩
      refine ⟨_, rfl, _, rfl, _, _, rfl, rfl, _, rfl, ?_⟩
      refine ite2 (fun q => ?_) (fun q => ?_)
      rotate_left
      · have : ¬ a < b := fun z => q (decide_eq_true z)
        have : a = b := by omega
        subst this
        exact ⟨a, _, _, rfl, xJ, a0, b2000, yb, na⟩
      have ab : a < b := of_decide_eq_true q
      refine ⟨fun σ' J' => ∃ m', m' < (b - a).toNat ∧ ∃ (a b : Int) (v4 : Option V), σ' = [some (.ref o1), some (.ref o2), some (.int a), some (.int b), v4] ∧ Ext H J' ∧ m' = (b - a).toNat ∧ 0 ≤ a ∧ a ≤ b ∧ b ≤ 2000 ∧ Exi L M b ∧ ∀ e, 0 ≤ e → e < a → ¬ Exi L M e, fun _ _ z => z, ?_⟩
      refine ⟨_, rfl, _, rfl, _, _, rfl, rfl, _, _, rfl, rfl, ⟨by decide, by decide⟩, ?_⟩
      have c1 : a ≤ (a + b) / 2 := by omega
      have c2 : (a + b) / 2 < b := by omega
      obtain ⟨r1, pr1, ok1⟩ := pob_ok L M ((a + b) / 2) rL.1 rM.1
      refine ⟨_, rfl, _, rfl, _, rfl, o1, o2, L, M, ((a + b) / 2), r1, rfl, b1.ext xJ, b2.ext xJ, rL.1, rM.1, pr1, fun p v u H4 x4 hp td => ?_⟩
      refine ⟨p, _, _, _, rfl, rfl, SqT.of hp, rfl, rfl, _, rfl, ?_⟩
      rcases told_ex rL.1 rM.1 ok1 td with ⟨rfl, no⟩ | ⟨⟨q, rfl⟩, yes⟩
      · refine iteT ⟨_, rfl, _, _, rfl, rfl, (b - (((a + b) / 2) + 1)).toNat, by omega, _, _, _, rfl, xJ.trans x4, rfl, by omega, by omega, b2000, yb, fun e h1 h2 z => no (z.mono (by omega))⟩
      · have dn := nn q
        refine ite2 (fun z => absurd (z.symm.trans dn) (by decide)) (fun _ => ?_)
        exact ⟨_, rfl, (((a + b) / 2) - a).toNat, by omega, _, _, _, rfl, xJ.trans x4, rfl, a0, by omega, by omega, yes, na⟩
    · rintro σ' J ⟨a, v3, v4, rfl, xJ, la⟩
      have e := Least.uniq lo la
      subst e
      exact ⟨_, rfl, k _ xJ⟩
end
end E47

set_option Elab.async false
set_option linter.all false
set_option maxRecDepth 100000
set_option maxHeartbeats 4000000
set_option pp.maxSteps 100
/-! _law_steps. -/
namespace E47.J
open PySem L2
abbrev sSteps : Stmt := top 39
def spSteps : Sp := fun vs H Q _ => ∃ (o1 o2 : Addr) (L M : List Bar), vs = [.ref o1, .ref o2] ∧ BL H o1 L ∧ BL H o2 M ∧ Right L ∧ Right M ∧ ∀ (q : Addr) (ns : List Int) (H' : Hp), Ext H H' → H' q = some (.lst (ns.map V.int)) → ns.Pairwise (· < ·) → 0 ∈ ns → (∀ s ∈ ns, 0 ≤ s ∧ s ≤ 2000) → Steps L M ns → ns.length ≤ 1000 → Q (.ref q) H'
section
variable {P : Program} {w : World} {K : PySem.W.Frag} {mg : Str → Option Value} {base : Heap}
abbrev stepsN : List Str := ["_law_one", "_law_other", "_law_bar_here", "_law_found", "_law_there", "_law_few", "_law_number"]
theorem scSteps : FnScope stepsN ["_law_one", "_law_other"] (defScope sSteps) := ⟨rfl, rfl, rfl, by decide +kernel, rfl, by decide +kernel, by decide +kernel⟩
/-- what is found so far: small, with 0 -/
structure Fd (F : List Int) : Prop where
  zero : 0 ∈ F
  rng : ∀ s ∈ F, 0 ≤ s ∧ s ≤ 2000
theorem absI_rng {d : Int} (h : -2000 ≤ d ∧ d ≤ 2000) : 0 ≤ absI d ∧ absI d ≤ 2000 := by
  unfold absI
  by_cases c : d < 0
  · rw [if_pos c]
    omega
  · rw [if_neg c]
    omega
theorem paired_app {α β : Type} {R : α → β → Prop} : ∀ {a : List α} {b : List β} {c : List α} {d : List β}, Paired R a b → Paired R c d → Paired R (a ++ c) (b ++ d)
  | _, _, _, _, .nil, h => h
  | _, _, _, _, .cons x r, h => .cons x (paired_app r h)
theorem half_rng {x : Bar} {g : Int} (ok : okBar x) (h : x.2 = some g) : 0 ≤ (g - x.1 + 1) / 2 ∧ (g - x.1 + 1) / 2 ≤ 2000 := by
  obtain ⟨h1, h2, h3⟩ := ok
  have := h3 g h
  omega
theorem ok_steps {f : Addr} {fd : FuncData} (F : L2.Fun K "_law_steps" "_law_steps" sSteps f fd) (T : Gb mg) : FnOk P w K mg base CX0 1 f fd ["_law_one", "_law_other"] spSteps := by
  refine F.ok scSteps (fun vs H Q E h => ?_) (fun cdv A outer s H vs Q E hr h => ?_)
  · obtain ⟨o1, o2, L, M, rfl, _⟩ := h
    rfl
  · obtain ⟨o1, o2, L, M, rfl, ⟨as, sq, bt⟩, ⟨bs, sq2, bt2⟩, rL, rM, k⟩ := h
    refine ⟨_, C8.pss_cut (ps_set (i := 3) scSteps.nd rfl (Or.inl rfl) (pe_op op_cat (pe_lst (pa_cons pe_int pa_nil)) (pe_lc (own := [("_law_bar_here", 2)]) (g := gName 2) rfl scSteps.nd (pi_list (pe_op op_cat (pv 0) (pv 1))) (blkOk_by (N := stepsN) (sc := defScope sSteps) (by decide +kernel)) (fun _ _ _ _ _ => (pg_name (i := 2) scSteps.nd rfl (Or.inl rfl))) (fun _ _ _ _ _ => (pts_one (pt_cmpR op_notN (pe_ix (r := rIxT K) ix_tup (pv 2) pe_int (fun _ _ => rfl)) pe_non (nomark _)))) (fun _ _ _ _ _ => (pe_op op_fdiv (pe_op op_add (pe_op op_sub (pe_ix (r := rIxT K) ix_tup (pv 2) pe_int (fun _ _ => rfl)) (pe_ix (r := rIxT K) ix_tup (pv 2) pe_int (fun _ _ => rfl))) pe_int) pe_int)))))
      (C8.pss_cut (ps_for PassesOwn.never rfl (pi_list (pv 0)) (pg_name (i := 2) scSteps.nd rfl (Or.inr rfl))
      (pss_cons (ps_expr (pe_bm PySem.F.plainAttrs_list PySem.F.slot_list_extend PySem.F.type_list_extend mt_extend (pv 3) (pa_cons (pe_lc (own := [("_law_there", 4)]) (g := gName 4) (tt := tYes) rfl scSteps.nd (pi_list (pv 1)) (blkOk_by (N := stepsN) (sc := defScope sSteps) (by decide +kernel)) (fun _ _ _ _ _ => (pg_name (i := 4) scSteps.nd rfl (Or.inl rfl))) (fun _ _ _ _ _ => pts_nil) (fun _ _ _ _ _ => (pe_callB call_abs (by rfl) T.abs (by decide +kernel) (pa_cons (pe_op op_sub (pe_ix (r := rIxT K) ix_tup (pv 2) pe_int (fun _ _ => rfl)) (pe_ix (r := rIxT K) ix_tup (pv 4) pe_int (fun _ _ => rfl))) pa_nil)))) pa_nil)))
      (pss_one (ps_if (pt_cmpR op_notN (pe_ix ix_tup (pv 2) pe_int (fun _ _ => rfl)) pe_non (nomark _)) (pss_one (ps_expr (pe_bm PySem.F.plainAttrs_list PySem.F.slot_list_extend PySem.F.type_list_extend mt_extend (pv 3) (pa_cons (pe_lc (own := [("_law_there", 4)]) (g := gName 4) rfl scSteps.nd (pi_list (pv 1)) (blkOk_by (N := stepsN) (sc := defScope sSteps) (by decide +kernel)) (fun _ _ _ _ _ => (pg_name (i := 4) scSteps.nd rfl (Or.inl rfl))) (fun _ _ _ _ _ => (pts_one (pt_cmpR op_notN (pe_ix (r := rIxT K) ix_tup (pv 4) pe_int (fun _ _ => rfl)) pe_non (nomark _)))) (fun _ _ _ _ _ => (pe_callB call_abs (by rfl) T.abs (by decide +kernel) (pa_cons (pe_op op_sub (pe_ix (r := rIxT K) ix_tup (pv 2) pe_int (fun _ _ => rfl)) (pe_ix (r := rIxT K) ix_tup (pv 4) pe_int (fun _ _ => rfl))) pa_nil)))) pa_nil)))) pss_nil))))
      (C8.pss_cut (ps_set (i := 5) scSteps.nd rfl (Or.inl rfl) (pe_lst pa_nil))
      (pss_cons (ps_for PassesOwn.never rfl (pi_list (pe_callB (r := rSortedI K) cr_sortedI (by rfl) T.sorted (by decide +kernel) (pa_cons (pv 3) pa_nil))) (pg_name (i := 6) scSteps.nd rfl (Or.inl rfl))
      (pss_one (ps_if (PW.pt (pw_or (pt_cmpR op_eq (pe_callB call_len_seq (by rfl) T.len PySem.boot_len (pa_cons (pv 5) pa_nil)) pe_int (nomark _)) (pw_or1 (pt_cmpR op_ne (pe_ix ix_list (pv 5) (pe_un un_neg pe_int) (fun _ _ => rfl)) (pv 6) (nomark _))))) (pss_one (ps_expr (pe_bm PySem.F.plainAttrs_list PySem.F.slot_list_append PySem.F.type_list_append mt_append (pv 5) (pa_cons (pv 6) pa_nil)))) pss_nil)))
      (pss_one (ps_ret (pv 5)))))), ?_⟩
    have la := bt.len
    have lb := bt2.len
    have lL := rL.1
    have lM := rM.1
    refine ⟨fun σ' J => ∃ (f : Addr) (G : List Int), σ' = [some (.ref o1), some (.ref o2), Option.none, some (.ref f), Option.none, Option.none, Option.none] ∧ Ext H J ∧ H f = none ∧ J f = some (.lst (G.map V.int)) ∧ G.length ≤ 41 ∧ Fd G ∧ ∀ x, x ∈ L ∨ x ∈ M → ∀ g, x.2 = some g → (g - x.1 + 1) / 2 ∈ G, ?_, ?_⟩
    · refine ⟨by show 1 ≤ sizeLine; decide, fun z nz => ?_⟩
      have x1 := Ext.upd (o := .lst [V.int 0]) nz
      have hz : (upd H z (.lst [V.int 0])) z = some (.lst [V.int 0]) := upd_same
      have Hz : H z = none := nz
      generalize upd H z (.lst [V.int 0]) = H1 at *
      have sq1 := x1 _ _ sq
      have sq21 := x1 _ _ sq2
      refine ⟨_, rfl, _, rfl, o1, o2, _, _, rfl, rfl, sq1, sq21, by rw [sizeLine_eq, List.length_map, List.length_map]; omega, fun c nc => ⟨c, rfl, ⟨_, SqL.of upd_same⟩, fun D nD => ?_⟩⟩
      have x2 := x1.trans (Ext.upd (o := .lst (as.map V.ref ++ bs.map V.ref)) nc)
      have hc : (upd H1 c (.lst (as.map V.ref ++ bs.map V.ref))) c = some (.lst (as.map V.ref ++ bs.map V.ref)) := upd_same
      have hz2 := (Ext.upd (o := .lst (as.map V.ref ++ bs.map V.ref)) nc) _ _ hz
      generalize upd H1 c (.lst (as.map V.ref ++ bs.map V.ref)) = H2 at *
      rw [← List.map_append] at hc
      have bts : BT H2 (as ++ bs) (L ++ M) := paired_app (bt.mono fun _ _ q => x2 _ _ q) (bt2.mono fun _ _ q => x2 _ _ q)
      have okx : ∀ x, x ∈ L ++ M → okBar x := fun x hx => (List.mem_append.mp hx).elim (rL.2 x) (rM.2 x)
      refine lc_it walk_list (fun j H3 => Ext H2 H3 ∧ ∃ S : List Int, H3 D = some (.lst (S.map V.int)) ∧ S.length ≤ j ∧ (∀ s ∈ S, 0 ≤ s ∧ s ≤ 2000) ∧ ∀ (i : Nat) (x : Bar) (g : Int), i < j → (L ++ M)[i]? = some x → x.2 = some g → (g - x.1 + 1) / 2 ∈ S) ⟨Ext.upd nD, [], upd_same, Nat.le_refl _, (fun _ q => nomatch q), fun i _ _ q => absurd q (Nat.not_lt_zero i)⟩ (fun j H3 _ q => SqL.of (q.1 _ _ hc)) ?_ ?_
      · rintro j y H3 H4 hj ⟨x3, S, hD, lS, rS, aS⟩ ⟨rfl, hy⟩
        obtain ⟨b, hja, rfl⟩ := ref_get hy
        obtain ⟨x, hx, hb⟩ := bts.get hja
        have hb3 := x3 _ _ hb
        have lj := (List.getElem?_eq_some_iff.mp hx).1
        rw [List.length_append] at lj
        refine ⟨rfl, _, rfl, b, _, _, _, rfl, rfl, SqT.of hb3, rfl, rfl, _, rfl, ?_⟩
        cases hg : x.2 with
        | none =>
          refine iteF ⟨x3, S, hD, Nat.le_succ_of_le lS, rS, fun i u g li hu hg' => ?_⟩
          by_cases q : i = j
          · subst q
            rw [hx] at hu
            cases hu
            rw [hg] at hg'
            cases hg'
          · exact aS i u g (by omega) hu hg'
        | some g =>
          refine iteT ⟨_, rfl, b, _, _, _, rfl, rfl, SqT.of hb3, rfl, _, rfl, b, _, _, _, rfl, rfl, SqT.of hb3, rfl, g, x.1, by show gV x.2 = _; rw [hg]; rfl, rfl, _, _, rfl, rfl, _, _, rfl, rfl, ⟨by decide, by decide⟩, _, hD, small1000 (by rw [List.length_map]; omega), fun d o' ho' => ?_, S ++ [(g - x.1 + 1) / 2], ?_, ?_, fun s hs => ?_, fun i u g' li hu hg' => ?_⟩
          · rw [upd_ne (ne_of_none ho' nD)]
            exact x3 _ _ ho'
          · rw [upd_same, List.map_append]
            rfl
          · rw [List.length_append, List.length_singleton]
            omega
          · rcases List.mem_append.mp hs with q | q
            · exact rS s q
            · rw [List.mem_singleton.mp q]
              exact half_rng (okx x (List.mem_of_getElem? hx)) hg
          · by_cases q : i = j
            · subst q
              rw [hx] at hu
              cases hu
              rw [hg] at hg'
              cases hg'
              exact List.mem_append_right _ (List.mem_singleton.mpr rfl)
            · exact List.mem_append_left _ (aS i u g' (by omega) hu hg')
      · rintro H3 ⟨x3, S, hD, lS, rS, aS⟩
        rw [List.length_map, List.length_append, la, lb] at lS aS
        refine ⟨z, D, _, _, rfl, rfl, x3 _ _ hz2, hD, by rw [sizeLine_eq, List.length_map]; show 1 + S.length ≤ _; omega, fun f nf => ?_⟩
        have x4 := (x2.trans x3).trans (Ext.upd (o := .lst ([V.int 0] ++ S.map V.int)) nf)
        refine ⟨f, 0 :: S, rfl, x4, none_back (x2.trans x3) nf, upd_same, by rw [List.length_cons]; omega, ⟨List.mem_cons_self, fun s hs => ?_⟩, fun x hx g hg => ?_⟩
        · rcases List.mem_cons.mp hs with q | q
          · rw [q]
            exact ⟨by decide, by decide⟩
          · exact rS s q
        · obtain ⟨i, hi⟩ := List.mem_iff_getElem?.mp (List.mem_append.mpr hx)
          have li := (List.getElem?_eq_some_iff.mp hi).1
          rw [List.length_append] at li
          exact List.mem_cons_of_mem _ (aS i x g li hi hg)
    rintro σ' H1 ⟨f, G, rfl, x1, Hf, hf, lG, fG, aG⟩
    have put : ∀ {J : Hp} {o : HO}, Ext H J → Ext H (upd J f o) := fun {J o} x d u hd => by
      rw [upd_ne (ne_of_none hd Hf)]
      exact x d u hd
    refine ⟨fun σ' J => ∃ (G : List Int) (v2 v4 : Option V), σ' = [some (.ref o1), some (.ref o2), v2, some (.ref f), v4, Option.none, Option.none] ∧ Ext H J ∧ J f = some (.lst (G.map V.int)) ∧ G.length ≤ 1000 ∧ Fd G ∧ Steps L M G, ?_, ?_⟩
    · refine ⟨_, rfl, o1, rfl, ⟨_, SqL.of (x1 _ _ sq)⟩, ?_⟩
      refine for_it walk_list (fun i σ' J => ∃ (G : List Int) (v2 v4 : Option V), σ' = [some (.ref o1), some (.ref o2), v2, some (.ref f), v4, Option.none, Option.none] ∧ Ext H J ∧ J f = some (.lst (G.map V.int)) ∧ G.length ≤ 41 + 40 * i ∧ Fd G ∧ (∀ x, x ∈ L ∨ x ∈ M → ∀ g, x.2 = some g → (g - x.1 + 1) / 2 ∈ G) ∧
          ∀ (i' : Nat) (x : Bar), i' < i → L[i']? = some x → ∀ y ∈ M, absI (x.1 - y.1) ∈ G ∧ ∀ g h, x.2 = some g → y.2 = some h → absI (g - h) ∈ G)
        ⟨G, _, _, rfl, x1, hf, by omega, fG, aG, fun i _ q => absurd q (Nat.not_lt_zero i)⟩ (fun i σ' J _ ⟨_, _, _, _, x, _⟩ => SqL.of (x _ _ sq)) ?_ ?_
      · rintro i z σ' J J' hi ⟨G, v2, v4, rfl, xJ, hf, lG, fG, aG, pG⟩ ⟨rfl, hz⟩
        obtain ⟨b, hib, rfl⟩ := ref_get hz
        obtain ⟨x, hx, hb⟩ := bt.get hib
        have okx := rL.2 x (List.mem_of_getElem? hx)
        have li := (List.getElem?_eq_some_iff.mp hx).1
        refine ⟨_, rfl, .inl ⟨rfl, _, SqL.of hf⟩, _, rfl, o2, rfl, ⟨_, SqL.of (xJ _ _ sq2)⟩, fun D nD => ?_⟩
        refine lc_it walk_list (fun j H3 => Ext J' H3 ∧ ∃ S : List Int, H3 D = some (.lst (S.map V.int)) ∧ S.length ≤ j ∧ (∀ s ∈ S, 0 ≤ s ∧ s ≤ 2000) ∧ ∀ (i : Nat) (y : Bar), i < j → M[i]? = some y → absI (x.1 - y.1) ∈ S) ⟨Ext.upd nD, [], upd_same, Nat.le_refl _, (fun _ q => nomatch q), fun i _ q => absurd q (Nat.not_lt_zero i)⟩ (fun j H3 _ q => SqL.of (q.1 _ _ (xJ _ _ sq2))) ?_ ?_
        · rintro j u H3 H4 hj ⟨x3, S, hD, lS, rS, aS⟩ ⟨rfl, hu⟩
          obtain ⟨c, hjc, rfl⟩ := ref_get hu
          obtain ⟨y, hy, hc⟩ := bt2.get hjc
          have oky := rM.2 y (List.mem_of_getElem? hy)
          have lj := (List.getElem?_eq_some_iff.mp hy).1
          have x03 := xJ.trans x3
          refine ⟨rfl, tyes_in ⟨_, rfl, b, _, _, _, rfl, rfl, SqT.of (x03 _ _ hb), rfl, _, rfl, c, _, _, _, rfl, rfl, SqT.of (x03 _ _ hc), rfl, _, _, rfl, rfl, _, rfl, _, hD, small1000 (by rw [List.length_map]; omega), fun d o' ho' => ?_, S ++ [absI (x.1 - y.1)], ?_, ?_, fun s hs => ?_, fun i v li hv => ?_⟩⟩
          · rw [upd_ne (ne_of_none ho' nD)]
            exact x3 _ _ ho'
          · rw [upd_same, List.map_append]
            rfl
          · rw [List.length_append, List.length_singleton]
            omega
          · rcases List.mem_append.mp hs with q | q
            · exact rS s q
            · rw [List.mem_singleton.mp q]
              have e1 : -1000 ≤ x.1 := okx.1
              have e2 : x.1 ≤ 1000 := okx.2.1
              have e3 : -1000 ≤ y.1 := oky.1
              have e4 : y.1 ≤ 1000 := oky.2.1
              exact absI_rng (by omega)
          · by_cases q : i = j
            · subst q
              rw [hy] at hv
              cases hv
              exact List.mem_append_right _ (List.mem_singleton.mpr rfl)
            · exact List.mem_append_left _ (aS i v (by omega) hv)
        rintro H3 ⟨x3, S, hD, lS, rS, aS⟩
        rw [List.length_map, lb] at lS aS
        refine ⟨f, D, _, _, rfl, rfl, x3 _ _ hf, hD, by rw [sizeLine_eq, List.length_map, List.length_map]; omega, ?_⟩
        rw [← List.map_append]
        have x4 := put (o := .lst ((G ++ S).map V.int)) (xJ.trans x3)
        have hf4 : (upd H3 f (.lst ((G ++ S).map V.int))) f = some (.lst ((G ++ S).map V.int)) := upd_same
        generalize upd H3 f (.lst ((G ++ S).map V.int)) = H4 at *
        have allS : ∀ y ∈ M, absI (x.1 - y.1) ∈ S := fun y hy => by
          obtain ⟨j, hj⟩ := List.mem_iff_getElem?.mp hy
          exact aS j y (List.getElem?_eq_some_iff.mp hj).1 hj
        have fGS : Fd (G ++ S) := ⟨List.mem_append_left _ fG.zero, fun s hs => (List.mem_append.mp hs).elim (fG.rng s) (rS s)⟩
        refine ⟨_, rfl, b, _, _, _, rfl, rfl, SqT.of (x4 _ _ hb), rfl, rfl, _, rfl, ?_⟩
        cases hg : x.2 with
        | none =>
          refine iteF ⟨G ++ S, _, _, rfl, x4, hf4, by rw [List.length_append]; omega, fGS, fun u hu g hg' => List.mem_append_left _ (aG u hu g hg'), fun i' u li' hu y hy => ?_⟩
          by_cases q : i' = i
          · subst q
            rw [hx] at hu
            cases hu
            exact ⟨List.mem_append_right _ (allS y hy), fun g h q1 _ => by rw [hg] at q1; cases q1⟩
          · have := pG i' u (by omega) hu y hy
            exact ⟨List.mem_append_left _ this.1, fun g h q1 q2 => List.mem_append_left _ (this.2 g h q1 q2)⟩
        | some g =>
          refine iteT ⟨_, rfl, .inl ⟨rfl, _, SqL.of hf4⟩, _, rfl, o2, rfl, ⟨_, SqL.of (x4 _ _ sq2)⟩, fun D2 nD2 => ?_⟩
          refine lc_it walk_list (fun j H5 => Ext H4 H5 ∧ ∃ S2 : List Int, H5 D2 = some (.lst (S2.map V.int)) ∧ S2.length ≤ j ∧ (∀ s ∈ S2, 0 ≤ s ∧ s ≤ 2000) ∧ ∀ (i : Nat) (y : Bar) (h : Int), i < j → M[i]? = some y → y.2 = some h → absI (g - h) ∈ S2) ⟨Ext.upd nD2, [], upd_same, Nat.le_refl _, (fun _ q => nomatch q), fun i _ _ q => absurd q (Nat.not_lt_zero i)⟩ (fun j H5 _ q => SqL.of (q.1 _ _ (x4 _ _ sq2))) ?_ ?_
          · rintro j u H5 H6 hj ⟨x5, S2, hD2, lS2, rS2, aS2⟩ ⟨rfl, hu⟩
            obtain ⟨c, hjc, rfl⟩ := ref_get hu
            obtain ⟨y, hy, hc⟩ := bt2.get hjc
            have oky := rM.2 y (List.mem_of_getElem? hy)
            have lj := (List.getElem?_eq_some_iff.mp hy).1
            have x05 := x4.trans x5
            refine ⟨rfl, _, rfl, c, _, _, _, rfl, rfl, SqT.of (x05 _ _ hc), rfl, rfl, _, rfl, ?_⟩
            cases hh : y.2 with
            | none =>
              refine iteF ⟨x5, S2, hD2, Nat.le_succ_of_le lS2, rS2, fun i v h' li hv hv' => ?_⟩
              by_cases q : i = j
              · subst q
                rw [hy] at hv
                cases hv
                rw [hh] at hv'
                cases hv'
              · exact aS2 i v h' (by omega) hv hv'
            | some h0 =>
              refine iteT ⟨_, rfl, b, _, _, _, rfl, rfl, SqT.of (x05 _ _ hb), rfl, _, rfl, c, _, _, _, rfl, rfl, SqT.of (x05 _ _ hc), rfl, g, h0, by show gV x.2 = _; rw [hg]; rfl, by show gV y.2 = _; rw [hh]; rfl, _, rfl, _, hD2, small1000 (by rw [List.length_map]; omega), fun d o' ho' => ?_, S2 ++ [absI (g - h0)], ?_, ?_, fun s hs => ?_, fun i v h' li hv hv' => ?_⟩
              · rw [upd_ne (ne_of_none ho' nD2)]
                exact x5 _ _ ho'
              · rw [upd_same, List.map_append]
                rfl
              · rw [List.length_append, List.length_singleton]
                omega
              · rcases List.mem_append.mp hs with q | q
                · exact rS2 s q
                · rw [List.mem_singleton.mp q]
                  have e1 := okx.2.2 g hg
                  have e2 : -1000 ≤ x.1 := okx.1
                  have e3 := oky.2.2 h0 hh
                  have e4 : -1000 ≤ y.1 := oky.1
                  exact absI_rng (by omega)
              · by_cases q : i = j
                · subst q
                  rw [hy] at hv
                  cases hv
                  rw [hh] at hv'
                  cases hv'
                  exact List.mem_append_right _ (List.mem_singleton.mpr rfl)
                · exact List.mem_append_left _ (aS2 i v h' (by omega) hv hv')
          rintro H5 ⟨x5, S2, hD2, lS2, rS2, aS2⟩
          rw [List.length_map, lb] at lS2 aS2
          refine ⟨f, D2, _, _, rfl, rfl, x5 _ _ hf4, hD2, by rw [sizeLine_eq, List.length_map, List.length_map, List.length_append]; omega, ?_⟩
          rw [← List.map_append]
          have x6 := put (o := .lst ((G ++ S ++ S2).map V.int)) (x4.trans x5)
          refine ⟨G ++ S ++ S2, _, _, rfl, x6, upd_same, by rw [List.length_append, List.length_append]; omega, ⟨List.mem_append_left _ fGS.zero, fun s hs => (List.mem_append.mp hs).elim (fGS.rng s) (rS2 s)⟩, fun u hu g' hg' => List.mem_append_left _ (List.mem_append_left _ (aG u hu g' hg')), fun i' u li' hu y hy => ?_⟩
          by_cases q : i' = i
          · subst q
            rw [hx] at hu
            cases hu
            refine ⟨List.mem_append_left _ (List.mem_append_right _ (allS y hy)), fun g' h q1 q2 => ?_⟩
            rw [hg] at q1
            cases q1
            obtain ⟨j, hj⟩ := List.mem_iff_getElem?.mp hy
            exact List.mem_append_right _ (aS2 j y h (List.getElem?_eq_some_iff.mp hj).1 hj q2)
          · have := pG i' u (by omega) hu y hy
            exact ⟨List.mem_append_left _ (List.mem_append_left _ this.1), fun g h q1 q2 => List.mem_append_left _ (List.mem_append_left _ (this.2 g h q1 q2))⟩
      · rintro σ' J ⟨G, v2, v4, rfl, xJ, hf, lG, fG, aG, pG⟩
        rw [List.length_map, la] at lG pG
        have at_ : ∀ x ∈ L, ∃ i : Nat, i < L.length ∧ L[i]? = some x := fun x hx => by
          obtain ⟨i, hi⟩ := List.mem_iff_getElem?.mp hx
          exact ⟨i, (List.getElem?_eq_some_iff.mp hi).1, hi⟩
        exact ⟨G, _, _, rfl, xJ, hf, by omega, fG, fun x hx y hy => (let ⟨i, li, hi⟩ := at_ x hx; (pG i x li hi y hy).1), fun x hx y hy g h q1 q2 => (let ⟨i, li, hi⟩ := at_ x hx; (pG i x li hi y hy).2 g h q1 q2), aG⟩
    rintro σ' H2 ⟨G, v2, v4, rfl, x2, hf, lG, fG, st⟩
    refine ⟨fun σ' J => ∃ q : Addr, σ' = [some (.ref o1), some (.ref o2), v2, some (.ref f), v4, some (.ref q), Option.none] ∧ Ext H J ∧ H q = none ∧ J q = some (.lst []) ∧ J f = some (.lst (G.map V.int)), ?_, ?_⟩
    · refine ⟨by show 0 ≤ sizeLine; decide, fun q nq => ?_⟩
      have xq := Ext.upd (o := .lst []) nq
      exact ⟨q, rfl, x2.trans xq, none_back x2 nq, upd_same, xq _ _ hf⟩
    rintro σ' H3 ⟨q, rfl, x3, Hq, hq, hf3⟩
    refine ⟨_, rfl, f, G, rfl, SqL.of hf3, fun ns' p perm srt np => ⟨p, rfl, ⟨_, SqL.of upd_same⟩, ?_⟩⟩
    have x4 := x3.trans (Ext.upd (o := .lst (ns'.map V.int)) np)
    have hp : (upd H3 p (.lst (ns'.map V.int))) p = some (.lst (ns'.map V.int)) := upd_same
    have npq : p ≠ q := fun z => by rw [z, hq] at np; cases np
    have hq4 : (upd H3 p (.lst (ns'.map V.int))) q = some (.lst []) := by rw [upd_ne npq.symm]; exact hq
    generalize upd H3 p (.lst (ns'.map V.int)) = H4 at *
    have ln : ns'.length ≤ 1000 := by
      have := perm.length_eq
      omega
    refine for_it walk_list (fun i σ' J => ∃ (N : List Int) (v6 : Option V), σ' = [some (.ref o1), some (.ref o2), v2, some (.ref f), v4, some (.ref q), v6] ∧ Ext H J ∧ J p = some (.lst (ns'.map V.int)) ∧ J q = some (.lst (N.map V.int)) ∧ N.length ≤ i ∧ N.Pairwise (· < ·) ∧ ∀ s, s ∈ N ↔ s ∈ ns'.take i)
      ⟨[], _, rfl, x4, hp, hq4, Nat.le_refl _, .nil, fun s => by rw [List.take_zero]⟩ (fun i σ' J _ ⟨_, _, _, _, h, _⟩ => SqL.of h) ?_ ?_
    · rintro i z σ' J J' hi ⟨N, v6, rfl, xJ, hpJ, hqJ, lN, aN, mN⟩ ⟨rfl, hz⟩
      obtain ⟨n, hn, rfl⟩ : ∃ n, ns'[i]? = some n ∧ z = .int n := by
        rw [List.getElem?_map] at hz
        cases e : ns'[i]? with
        | none => rw [e] at hz; cases hz
        | some n => rw [e] at hz; cases hz; exact ⟨n, rfl, rfl⟩
      have tk : ns'.take (i + 1) = ns'.take i ++ [n] := by rw [List.take_succ, hn]; rfl
      have li := (List.getElem?_eq_some_iff.mp hn).1
      have below : ∀ s ∈ N, s ≤ n := fun s hs => by
        obtain ⟨a, ha⟩ := List.mem_iff_getElem?.mp ((mN s).mp hs)
        obtain ⟨la', ea⟩ := List.getElem?_eq_some_iff.mp ha
        rw [List.length_take] at la'
        rw [List.getElem_take] at ea
        obtain ⟨l2, e2⟩ := List.getElem?_eq_some_iff.mp hn
        have := List.pairwise_iff_getElem.mp srt a i (by omega) l2 (by omega)
        rw [ea, e2] at this
        exact this
      have add : (∀ s ∈ N, s < n) → (∃ (N' : List Int) (v6 : Option V), [some (.ref o1), some (.ref o2), v2, some (.ref f), v4, some (.ref q), some (.int n)] = [some (.ref o1), some (.ref o2), v2, some (.ref f), v4, some (.ref q), v6] ∧ Ext H (upd J' q (.lst (N.map V.int ++ [.int n]))) ∧ (upd J' q (.lst (N.map V.int ++ [.int n]))) p = some (.lst (ns'.map V.int)) ∧ (upd J' q (.lst (N.map V.int ++ [.int n]))) q = some (.lst (N'.map V.int)) ∧ N'.length ≤ i + 1 ∧ N'.Pairwise (· < ·) ∧ ∀ s, s ∈ N' ↔ s ∈ ns'.take (i + 1)) := fun lt =>
        ⟨N ++ [n], _, rfl, fun d u hd => (by rw [upd_ne (ne_of_none hd Hq)]; exact xJ d u hd), by rw [upd_ne npq]; exact hpJ, by rw [upd_same, List.map_append]; rfl, by rw [List.length_append, List.length_singleton]; omega, List.pairwise_append.mpr ⟨aN, List.pairwise_singleton _ _, fun a ha b hb => by rw [List.mem_singleton.mp hb]; exact lt a ha⟩, fun s => by rw [tk, List.mem_append, List.mem_append, mN]⟩
      refine ⟨_, rfl, q, _, rfl, .inl (SqL.of hqJ), rfl, _, rfl, ?_⟩
      cases eN : N.getLast? with
      | none =>
        have : N = [] := List.getLast?_eq_none_iff.mp eN
        subst this
        refine iteT (iteT ⟨_, rfl, .inl ⟨rfl, _, SqL.of hqJ⟩, _, rfl, q, _, _, rfl, rfl, hqJ, by rw [sizeLine_eq]; simp, ?_⟩)
        exact add fun s hs => nomatch hs
      | some m =>
        obtain ⟨N0, rfl⟩ : ∃ N0, N = N0 ++ [m] := ⟨N.dropLast, by
          have ne : N ≠ [] := fun z => by rw [z] at eN; cases eN
          rw [List.getLast?_eq_some_getLast ne] at eN
          injection eN with eN
          rw [← eN]
          exact (List.dropLast_concat_getLast ne).symm⟩
        have dn : decide (V.int ((((N0 ++ [m]).map V.int).length : Nat) : Int) = V.int 0) = false := decide_eq_false fun z => by
          injection z with z
          rw [List.length_map, List.length_append, List.length_singleton] at z
          omega
        refine ite2 (fun z => absurd (z.symm.trans dn) (by decide)) (fun _ => ?_)
        have lm : atI ((N0 ++ [m]).map V.int) (-1) = some (.int m) := by
          rw [List.map_append]
          exact atI_last _ _
        refine ⟨_, rfl, 1, rfl, q, _, _, _, rfl, rfl, SqL.of hqJ, lm, _, rfl, rfl, _, rfl, ?_⟩
        by_cases c : m = n
        · have dm : (!decide (V.int m = V.int n)) = false := by rw [c, decide_eq_true rfl]; rfl
          refine ite2 (fun z => absurd (z.symm.trans dm) (by decide)) (fun _ => ?_)
          refine ⟨N0 ++ [m], _, rfl, xJ, hpJ, hqJ, by omega, aN, fun s => ?_⟩
          rw [tk]
          refine (mN s).trans ⟨fun h => List.mem_append_left _ h, fun h => ?_⟩
          rcases List.mem_append.mp h with h | h
          · exact h
          · rw [List.mem_singleton.mp h, ← c]
            exact (mN m).mp (List.mem_append_right _ (List.mem_singleton.mpr rfl))
        · have dm : (!decide (V.int m = V.int n)) = true := by rw [decide_eq_false fun z => c (by injection z)]; rfl
          refine ite2 (fun _ => ?_) (fun z => absurd dm z)
          refine ⟨_, rfl, .inl ⟨rfl, _, SqL.of hqJ⟩, _, rfl, q, _, _, rfl, rfl, hqJ, by rw [sizeLine_eq, List.length_map]; omega, ?_⟩
          refine add fun s hs => ?_
          have mn : m < n := by
            have := below m (List.mem_append_right _ (List.mem_singleton.mpr rfl))
            omega
          rcases List.mem_append.mp hs with h | h
          · have := (List.pairwise_append.mp aN).2.2 s h m (List.mem_singleton.mpr rfl)
            omega
          · rw [List.mem_singleton.mp h]
            exact mn
    · rintro σ' J ⟨N, v6, rfl, xJ, hpJ, hqJ, lN, aN, mN⟩
      rw [List.length_map] at lN mN
      rw [List.take_of_length_le (Nat.le_refl _)] at mN
      have mem : ∀ s, s ∈ N ↔ s ∈ G := fun s => (mN s).trans perm.mem_iff
      refine ⟨_, rfl, k q N J xJ hqJ aN ((mem 0).mpr fG.zero) (fun s hs => fG.rng s ((mem s).mp hs)) ⟨fun x hx y hy => (mem _).mpr (st.b x hx y hy), fun x hx y hy g h e1 e2 => (mem _).mpr (st.g x hx y hy g h e1 e2), fun x hx g e => (mem _).mpr (st.s x hx g e)⟩ (by omega)⟩
end
end E47.J

set_option Elab.async false
set_option linter.all false
set_option maxRecDepth 100000
set_option maxHeartbeats 4000000
set_option pp.maxSteps 100
/-! _law_due. -/
namespace E47.J
open PySem L2
abbrev sDue : Stmt := top 40
def spDue : Sp := fun vs H Q _ => ∃ (o1 o2 : Addr) (L M : List Bar) (o : Option Int), vs = [.ref o1, .ref o2] ∧ BL H o1 L ∧ BL H o2 M ∧ Right L ∧ Right M ∧ Least L M o ∧ ∀ H', Ext H H' → Q (oV o) H'
section
variable {P : Program} {w : World} {K : PySem.W.Frag} {mg : Str → Option Value} {base : Heap}
abbrev dueN : List Str := ["_law_one", "_law_other", "_law_numbers", "_law_low", "_law_high", "_law_middle"]
theorem scDue : FnScope dueN ["_law_one", "_law_other"] (defScope sDue) := ⟨rfl, rfl, rfl, by decide +kernel, rfl, by decide +kernel, by decide +kernel⟩
theorem ok_due {f : Addr} {fd : FuncData} (F : L2.Fun K "_law_due" "_law_due" sDue f fd) (T : Gb mg) (cSt : Cal P w K mg base 1 "_law_steps" spSteps []) (cTh : Cal P w K mg base 24 "_law_is_there" spThere []) : FnOk P w K mg base CX0 25 f fd ["_law_one", "_law_other"] spDue := by
  refine F.ok scDue (fun vs H Q E h => ?_) (fun cdv A outer s H vs Q E hr h => ?_)
  · obtain ⟨o1, o2, L, M, o, rfl, _⟩ := h
    rfl
  · obtain ⟨o1, o2, L, M, o, rfl, b1, b2, rL, rM, lo, k⟩ := h
    refine ⟨_, pss_cons (ps_set (i := 2) scDue.nd rfl (Or.inl rfl) (C8.pe_c cSt hr (by decide) (by rfl) (pa_cons (pv 0) (pa_cons (pv 1) pa_nil))))
      (pss_cons (ps_if (pt_not (pt_val (C8.pe_c cTh hr (by decide) (by rfl) (pa_cons (pv 0) (pa_cons (pv 1) (pa_cons (pe_ix ix_list (pv 2) (pe_un un_neg pe_int) (fun _ _ => rfl)) pa_nil)))))) (pss_one (ps_ret pe_non)) pss_nil)
      (pss_cons (ps_par (i := 3) (j := 4) rfl scDue.nd rfl rfl (by decide) rfl rfl (pa_cons pe_int (pa_cons (pe_op op_sub (pe_callB call_len_seq (by rfl) T.len PySem.boot_len (pa_cons (pv 2) pa_nil)) pe_int) pa_nil)) (by rfl))
      (C8.pss_cut (ps_while PassesOwn.never (pt_cmpR op_lt (pv 3) (pv 4) (nomark _))
      (pss_cons (ps_set (i := 5) scDue.nd rfl (Or.inl rfl) (pe_op op_fdiv (pe_op op_add (pv 3) (pv 4)) pe_int))
      (pss_one (ps_if (pt_val (C8.pe_c cTh hr (by decide) (by rfl) (pa_cons (pv 0) (pa_cons (pv 1) (pa_cons (pe_ix ix_list (pv 2) (pv 5) (fun _ _ => rfl)) pa_nil))))) (pss_one (ps_set (i := 4) scDue.nd rfl (Or.inl rfl) (pv 5))) (pss_one (ps_set (i := 3) scDue.nd rfl (Or.inl rfl) (pe_op op_add (pv 5) pe_int)))))))
      (pss_one (ps_ret (pe_ix ix_list (pv 2) (pv 3) (fun _ _ => rfl))))))), ?_⟩
    refine ⟨_, rfl, _, rfl, o1, o2, L, M, rfl, b1, b2, rL, rM, fun q ns H1 x1 hq asc zero rng st ln => ?_⟩
    obtain ⟨N0, last, rfl⟩ : ∃ N0 last, ns = N0 ++ [last] := ⟨ns.dropLast, ns.getLast (fun z => by rw [z] at zero; exact nomatch zero), (List.dropLast_concat_getLast _).symm⟩
    have hl : atI ((N0 ++ [last]).map V.int) (-1) = some (.int last) := by
      rw [List.map_append]
      exact atI_last _ _
    have all : ∀ s ∈ N0 ++ [last], s ≤ last := fun s hs => by
      rcases List.mem_append.mp hs with h | h
      · have := (List.pairwise_append.mp asc).2.2 s h last (List.mem_singleton.mpr rfl)
        omega
      · rw [List.mem_singleton.mp h]
        exact Int.le_refl _
    refine ⟨_, rfl, _, rfl, _, rfl, 1, rfl, q, _, _, _, rfl, rfl, SqL.of hq, hl, o1, o2, L, M, last, rfl, b1.ext x1, b2.ext x1, rL.1, rM.1, fun bb H2 x2 hbb => ⟨_, rfl, ?_⟩⟩
    have x12 := x1.trans x2
    have hq2 := x2 _ _ hq
    cases bb with
    | false =>
      refine iteT ?_
      have no : ¬ Exi L M last := fun z => by
        have := hbb.mpr z
        cases this
      have e := Least.uniq lo (least_none st all no)
      subst e
      exact k _ x12
    | true =>
      refine iteF ?_
      have yes : Exi L M last := hbb.mp rfl
      have lastAt : (N0 ++ [last])[N0.length]? = some last := by rw [List.getElem?_append_right (Nat.le_refl _), Nat.sub_self]; rfl
      have lns : (N0 ++ [last]).length = N0.length + 1 := by rw [List.length_append]; rfl
      have at_ : ∀ {j : Nat}, j ≤ N0.length → ∃ p, (N0 ++ [last])[j]? = some p := fun {j} h => ⟨_, List.getElem?_eq_getElem (by omega)⟩
      have le_ : ∀ {i j : Nat} {a b : Int}, (N0 ++ [last])[i]? = some a → (N0 ++ [last])[j]? = some b → i ≤ j → a ≤ b := fun {i j a b} hi hj ij => by
        by_cases c : i = j
        · subst c
          rw [hi] at hj
          cases hj
          exact Int.le_refl _
        · obtain ⟨l1, e1⟩ := List.getElem?_eq_some_iff.mp hi
          obtain ⟨l2, e2⟩ := List.getElem?_eq_some_iff.mp hj
          have := List.pairwise_iff_getElem.mp asc i j l1 l2 (by omega)
          rw [e1, e2] at this
          omega
      refine ⟨_, rfl, q, _, rfl, .inl (SqL.of hq2), _, _, rfl, rfl, _, _, rfl, ?_⟩
      refine ⟨fun σ' J => ∃ (a : Nat) (p : Int) (v4 v5 : Option V), σ' = [some (.ref o1), some (.ref o2), some (.ref q), some (.int (a : Int)), v4, v5] ∧ Ext H J ∧ J q = some (.lst ((N0 ++ [last]).map V.int)) ∧ (N0 ++ [last])[a]? = some p ∧ Exi L M p ∧ ∀ (j : Nat) (p : Int), j < a → (N0 ++ [last])[j]? = some p → ¬ Exi L M p, ?_, ?_⟩
      · refine ⟨fun m σ' J => ∃ (a b : Nat) (p : Int) (v5 : Option V), σ' = [some (.ref o1), some (.ref o2), some (.ref q), some (.int (a : Int)), some (.int (b : Int)), v5] ∧ Ext H J ∧ J q = some (.lst ((N0 ++ [last]).map V.int)) ∧ m = b - a ∧ a ≤ b ∧ b ≤ N0.length ∧ (N0 ++ [last])[b]? = some p ∧ Exi L M p ∧ ∀ (j : Nat) (p : Int), j < a → (N0 ++ [last])[j]? = some p → ¬ Exi L M p,
          ⟨_, 0, N0.length, last, _, by rw [List.length_map, lns]; show _ = [some (V.ref o1), some (V.ref o2), some (V.ref q), some (V.int 0), some (V.int (N0.length : Int)), none]; rw [show (N0.length : Int) = ((N0.length + 1 : Nat) : Int) - 1 from by omega]; rfl, x12, hq2, rfl, Nat.zero_le _, Nat.le_refl _, lastAt, yes, fun j _ h => absurd h (Nat.not_lt_zero j)⟩, ?_⟩
        rintro m σ' J ⟨a, b, p, v5, rfl, xJ, hqJ, rfl, ab, bl, hb, yb, na⟩
        refine ⟨_, rfl, _, rfl, _, _, rfl, rfl, _, rfl, ?_⟩
        refine ite2 (fun z => ?_) (fun z => ?_)
        rotate_left
        · have : a = b := by
            have : ¬ (a : Int) < (b : Int) := fun w => z (decide_eq_true w)
            omega
          subst this
          exact ⟨a, p, _, _, rfl, xJ, hqJ, hb, yb, na⟩
        have lt : a < b := by
          have := of_decide_eq_true z
          omega
        refine ⟨fun σ' J' => ∃ m', m' < b - a ∧ ∃ (a b : Nat) (p : Int) (v5 : Option V), σ' = [some (.ref o1), some (.ref o2), some (.ref q), some (.int (a : Int)), some (.int (b : Int)), v5] ∧ Ext H J' ∧ J' q = some (.lst ((N0 ++ [last]).map V.int)) ∧ m' = b - a ∧ a ≤ b ∧ b ≤ N0.length ∧ (N0 ++ [last])[b]? = some p ∧ Exi L M p ∧ ∀ (j : Nat) (p : Int), j < a → (N0 ++ [last])[j]? = some p → ¬ Exi L M p, fun _ _ z => z, ?_⟩
        refine ⟨_, rfl, _, rfl, _, _, rfl, rfl, _, _, rfl, rfl, ⟨by decide, by decide⟩, ?_⟩
        obtain ⟨pm, hm⟩ := at_ (j := (a + b) / 2) (by omega)
        have em : ((a : Int) + (b : Int)) / 2 = (((a + b) / 2 : Nat) : Int) := by omega
        have hmV : ((N0 ++ [last]).map V.int)[(a + b) / 2]? = some (.int pm) := by rw [List.getElem?_map, hm]; rfl
        refine ⟨_, rfl, _, rfl, _, rfl, _, rfl, q, _, _, _, rfl, rfl, SqL.of hqJ, at_of (j := (a + b) / 2) em hmV, o1, o2, L, M, pm, rfl, b1.ext xJ, b2.ext xJ, rL.1, rM.1, fun bb J2 x2' hbb => ⟨_, rfl, ?_⟩⟩
        cases bb with
        | true => exact iteT ⟨_, rfl, (a + b) / 2 - a, by omega, a, (a + b) / 2, pm, _, by show _ = [some (V.ref o1), some (V.ref o2), some (V.ref q), some (V.int (a : Int)), some (V.int (((a + b) / 2 : Nat) : Int)), _]; rw [← em]; rfl, xJ.trans x2', x2' _ _ hqJ, rfl, by omega, by omega, hm, hbb.mp rfl, na⟩
        | false =>
          have no : ¬ Exi L M pm := fun z => by
            have := hbb.mpr z
            cases this
          exact iteF ⟨_, rfl, _, _, rfl, rfl, b - ((a + b) / 2 + 1), by omega, (a + b) / 2 + 1, b, p, _, by show _ = [some (V.ref o1), some (V.ref o2), some (V.ref q), some (V.int (((a + b) / 2 + 1 : Nat) : Int)), some (V.int (b : Int)), _]; rw [show (((a + b) / 2 + 1 : Nat) : Int) = ((a : Int) + (b : Int)) / 2 + 1 from by omega]; rfl, xJ.trans x2', x2' _ _ hqJ, rfl, by omega, bl, hb, yb, fun j pj hj hpj z => no (z.mono (le_ hpj hm (by omega)))⟩
      · rintro σ' J ⟨a, p, v4, v5, rfl, xJ, hqJ, ha, ya, na⟩
        have e := Least.uniq lo (least_step st asc zero rng ha ya na)
        subst e
        have haV : ((N0 ++ [last]).map V.int)[a]? = some (.int p) := by rw [List.getElem?_map, ha]; rfl
        exact ⟨_, rfl, _, rfl, q, _, _, _, rfl, rfl, SqL.of hqJ, at_of (j := a) rfl haV, k _ xJ⟩
end
end E47.J

set_option Elab.async false
set_option linter.all false
set_option maxRecDepth 100000
set_option maxHeartbeats 4000000
set_option pp.maxSteps 100
/-! _law_shuffled. -/
namespace E47.J
open PySem L2
abbrev sShuf : Stmt := top 41
def spShuf : Sp := fun vs H Q _ => ∃ (r c o1 : Addr) (L : List Bar), vs = [.ref r, .ref o1] ∧ BagAt H r c ∧ BL (Off r c H) o1 L ∧ L.length ≤ 20 ∧ ∀ (q : Addr) (ks : List Nat) (H' : Hp), Go r c H H' → BL (Off r c H') q (ks.map fun i => L.getD i (0, none)) → ks.Nodup → (∀ i, i < L.length → i ∈ ks) → (∀ i ∈ ks, i < L.length) → Q (.ref q) H'
section
variable {P : Program} {w : World} {K : PySem.W.Frag} {mg : Str → Option Value} {base : Heap}
abbrev shufN : List Str := ["_law_bag_here", "_law_things", "_law_pool", "_law_found"]
theorem scShuf : FnScope shufN ["_law_bag_here", "_law_things"] (defScope sShuf) := ⟨rfl, rfl, rfl, by decide +kernel, rfl, by decide +kernel, by decide +kernel⟩
theorem pick_bars {S : Hp} {as : List Addr} {L : List Bar} (bt : BT S as L) : ∀ {ks : List Nat}, (∀ i ∈ ks, i < L.length) → BT S (ks.map fun i => as.getD i 0) (ks.map fun i => L.getD i (0, none))
  | [], _ => .nil
  | k :: ks, h => by
    have hk := h k List.mem_cons_self
    have la := bt.len
    have ha : as[k]? = some as[k] := List.getElem?_eq_getElem (by omega)
    obtain ⟨x, hx, hS⟩ := bt.get ha
    refine .cons ?_ (pick_bars bt fun i hi => h i (List.mem_cons_of_mem _ hi))
    show S (as.getD k 0) = some (.tup (barL (L.getD k (0, none))))
    rw [List.getD_eq_getElem?_getD, ha, List.getD_eq_getElem?_getD, hx]
    exact hS
theorem erase_perm : ∀ (l : List Nat) (k : Nat) (h : k < l.length), (l[k] :: l.eraseIdx k).Perm l
  | [], _, h => absurd h (Nat.not_lt_zero _)
  | x :: l, 0, _ => .refl _
  | x :: l, k + 1, h => by
    have hk : k < l.length := Nat.lt_of_succ_lt_succ h
    exact (List.Perm.swap x l[k] (l.eraseIdx k)).trans ((erase_perm l k hk).cons x)
theorem ok_shuf {f : Addr} {fd : FuncData} (F : L2.Fun K "_law_shuffled" "_law_shuffled" sShuf f fd) (T : Gb mg) (cP : Cal P w K mg base 1 "_law_pick" spPick []) : FnOk P w K mg base CX0 2 f fd ["_law_bag_here", "_law_things"] spShuf := by
  refine F.ok scShuf (fun vs H Q E h => ?_) (fun cdv A outer s H vs Q E hr h => ?_)
  · obtain ⟨r, c, o1, L, rfl, _⟩ := h
    rfl
  · obtain ⟨r, c, o1, L, rfl, bag, ⟨as, sq, bt⟩, lL, k⟩ := h
    refine ⟨_, pss_cons (ps_par (i := 2) (j := 3) rfl scShuf.nd rfl rfl (by decide) rfl rfl (pa_cons (pe_callTy call_list_of (by rfl) T.list (by decide +kernel) (pa_cons (pv 1) pa_nil)) (pa_cons (pe_lst pa_nil) pa_nil)) (by rfl))
      (C8.pss_cut (ps_while PassesOwn.never (pt_cmpR op_gt (pe_callB call_len_seq (by rfl) T.len PySem.boot_len (pa_cons (pv 2) pa_nil)) pe_int (nomark _))
      (pss_one (ps_expr (pe_bm PySem.F.plainAttrs_list PySem.F.slot_list_append PySem.F.type_list_append mt_append (pv 3) (pa_cons (pe_bm PySem.F.plainAttrs_list PySem.F.slot_list_pop PySem.F.type_list_pop mt_popAt (pv 2) (pa_cons (C8.pe_c cP hr (by decide) (by rfl) (pa_cons (pv 0) (pa_cons (pe_callB call_len_seq (by rfl) T.len PySem.boot_len (pa_cons (pv 2) pa_nil)) pa_nil))) pa_nil)) pa_nil)))))
      (pss_one (ps_ret (pv 3)))), ?_⟩
    have la := bt.len
    have sqH := off_le _ _ sq
    refine ⟨_, rfl, o1, _, rfl, .inl (SqL.of sqH), fun pl npl => ⟨by show 0 ≤ sizeLine; decide, fun fn nfn => ⟨_, _, rfl, ?_⟩⟩⟩
    have x1 := Ext.upd (o := .lst (as.map V.ref)) npl
    have Hfn := none_back x1 nfn
    have nfp : fn ≠ pl := fun z => by rw [z, upd_same] at nfn; cases nfn
    have hpl : (upd (upd H pl (.lst (as.map V.ref))) fn (.lst [])) pl = some (.lst (as.map V.ref)) := by rw [upd_ne nfp.symm]; exact upd_same
    have hfn : (upd (upd H pl (.lst (as.map V.ref))) fn (.lst [])) fn = some (.lst []) := upd_same
    have g1 : Go r c H (upd (upd H pl (.lst (as.map V.ref))) fn (.lst [])) := Go.put bag (Go.put bag (Go.refl bag) npl) Hfn
    have np := bag.ne npl
    have nf := bag.ne Hfn
    generalize upd (upd H pl (.lst (as.map V.ref))) fn (.lst []) = H1 at *
    have e0 : as.map V.ref = (List.range L.length).map fun i => V.ref (as.getD i 0) := by
      refine List.ext_getElem? fun i => ?_
      rw [List.getElem?_map, List.getElem?_map]
      by_cases c : i < L.length
      · rw [List.getElem?_eq_getElem (by omega), List.getElem?_range c]
        show some (V.ref as[i]) = some (V.ref (as.getD i 0))
        rw [List.getD_eq_getElem?_getD, List.getElem?_eq_getElem (by omega)]
        rfl
      · rw [List.getElem?_eq_none_iff.mpr (by omega), List.getElem?_eq_none_iff.mpr (by rw [List.length_range]; omega)]
        rfl
    rw [e0] at hpl
    refine ⟨fun σ' J => ∃ fs : List Nat, σ' = [some (.ref r), some (.ref o1), some (.ref pl), some (.ref fn)] ∧ Go r c H J ∧ J fn = some (.lst (fs.map fun i => V.ref (as.getD i 0))) ∧ fs.Perm (List.range L.length), ?_, ?_⟩
    · refine ⟨fun m σ' J => ∃ ps fs : List Nat, σ' = [some (.ref r), some (.ref o1), some (.ref pl), some (.ref fn)] ∧ Go r c H J ∧ J pl = some (.lst (ps.map fun i => V.ref (as.getD i 0))) ∧ J fn = some (.lst (fs.map fun i => V.ref (as.getD i 0))) ∧ (ps ++ fs).Perm (List.range L.length) ∧ m = ps.length, ⟨_, List.range L.length, [], rfl, g1, hpl, hfn, by rw [List.append_nil], rfl⟩, ?_⟩
      rintro m σ' J ⟨ps, fs, rfl, g, hp, hf, pm, rfl⟩
      refine ⟨_, rfl, pl, _, rfl, .inl (SqL.of hp), _, _, rfl, rfl, _, rfl, ?_⟩
      have lpm := pm.length_eq
      rw [List.length_append, List.length_range] at lpm
      refine ite2 (fun z => ?_) (fun z => ?_)
      rotate_left
      · have : ps = [] := by
          cases ps with
          | nil => rfl
          | cons x r => exact absurd (decide_eq_true (by rw [List.length_map, List.length_cons]; omega)) z
        subst this
        exact ⟨fs, rfl, g, hf, pm⟩
      have pos : 0 < ps.length := by
        have := of_decide_eq_true z
        rw [List.length_map] at this
        omega
      refine ⟨fun σ' J' => ∃ m', m' < ps.length ∧ ∃ ps fs : List Nat, σ' = [some (.ref r), some (.ref o1), some (.ref pl), some (.ref fn)] ∧ Go r c H J' ∧ J' pl = some (.lst (ps.map fun i => V.ref (as.getD i 0))) ∧ J' fn = some (.lst (fs.map fun i => V.ref (as.getD i 0))) ∧ (ps ++ fs).Perm (List.range L.length) ∧ m' = ps.length, fun _ _ z => z, ?_⟩
      refine ⟨_, rfl, .inl ⟨rfl, _, SqL.of hf⟩, _, rfl, .inl ⟨rfl, _, SqL.of hp⟩, _, rfl, _, rfl, pl, _, rfl, .inl (SqL.of hp), r, c, (ps.length : Int), by rw [List.length_map]; rfl, g.1, by omega, by omega, fun n J1 n0 n1 g2 => ?_⟩
      have hp1 := g2.2 _ _ np.1 np.2 hp
      have hf1 := g2.2 _ _ nf.1 nf.2 hf
      obtain ⟨kk, rfl⟩ : ∃ kk : Nat, n = (kk : Int) := ⟨n.toNat, by omega⟩
      have lk : kk < ps.length := by omega
      have six : seqIndex? (kk : Int) (ps.map fun i => V.ref (as.getD i 0)).length = some kk := (ixN_seq (by
        unfold ixN
        rw [if_pos (Int.natCast_nonneg kk), if_pos (by rw [List.length_map]; omega)]
        rfl)).1
      refine ⟨pl, _, _, kk, V.ref (as.getD ps[kk] 0), rfl, rfl, hp1, by omega, by omega, six, by rw [List.getElem?_map, List.getElem?_eq_getElem lk]; rfl, ?_⟩
      rw [← DT.map_erase]
      refine ⟨fn, _, _, rfl, rfl, by rw [upd_ne nfp]; exact hf1, small1000 (by rw [List.length_map]; omega), ?_⟩
      have g3 := g.trans g2
      refine ⟨ps.length - 1, by omega, ps.eraseIdx kk, fs ++ [ps[kk]], rfl, Go.put bag (Go.put bag g3 npl) Hfn, by rw [upd_ne nfp.symm]; exact upd_same, by rw [upd_same, List.map_append]; rfl, ?_, by rw [List.length_eraseIdx_of_lt lk]⟩
      refine List.Perm.trans ?_ pm
      have e := erase_perm ps kk lk
      refine List.Perm.trans ?_ (e.append_right fs)
      rw [← List.append_assoc]
      exact List.perm_append_comm
    · rintro σ' J ⟨fs, rfl, g, hf, pm⟩
      have rg : ∀ i ∈ fs, i < L.length := fun i hi => List.mem_range.mp (pm.mem_iff.mp hi)
      refine ⟨_, rfl, k fn fs J g ⟨_, ?_, pick_bars (bt.mono fun _ _ z => g.off _ _ z) rg⟩ (pm.nodup_iff.mpr List.nodup_range) (fun i hi => pm.mem_iff.mpr (List.mem_range.mpr hi)) rg⟩
      rw [List.map_map]
      exact off_at nf hf
end
end E47.J

set_option Elab.async false
set_option linter.all false
set_option maxRecDepth 100000
set_option maxHeartbeats 4000000
set_option pp.maxSteps 150
/-! law. -/
namespace E47.J
open PySem L2
abbrev sLaw : Stmt := top 42
def spLaw (K : PySem.W.Frag) : Sp := fun vs H Q _ => ∃ (a : Addr) (ns : List Int), vs = [.ref a] ∧ SqL K H a (ns.map V.int) ∧ ns.length ≤ 63 ∧ ∀ H', Q (.bl true) H'
/-- a def that never raises here needs no one to catch -/
theorem quiet {P : Program} {w : World} {K : PySem.W.Frag} {mg : Str → Option Value} {base : Heap} {k : Nat} {f : Addr} {fd : FuncData} {ps : List Str} {sp : Sp} (F : FnOk P w K mg base (L2.CX P w) k f fd ps sp) (ign : ∀ vs H Q E E', sp vs H Q E → sp vs H Q E') : FnOk P w K mg base CX0 k f fd ps sp := by
  refine ⟨F.len, fun A outer s H args us vs Q E hr e0 hb r hsp => ?_⟩
  refine codeAny_mono (F.run A outer s H args us vs Q C8.E0 hr e0 hb r (ign _ _ _ _ _ hsp)) fun r s' h => ?_
  match r, h with
  | .error e, ⟨_, _, _, _, _, _, _, _, _, _, _, _, z⟩ => exact z
  | .ok .next, h => exact h
  | .ok .brk, h => exact h
  | .ok .cont, h => exact h
  | .ok (.ret u), h => exact h
theorem least_ex (L M : List Bar) : ∃ o, Least L M o := by
  by_cases h : Exi L M 2000
  · have go : ∀ n : Nat, n ≤ 2000 → Exi L M (n : Int) → ∃ o, Least L M o := by
      intro n
      induction n using Nat.strongRecOn with
      | _ n ih =>
        intro ln hn
        by_cases c : ∃ m : Nat, m < n ∧ Exi L M (m : Int)
        · obtain ⟨m, hm, em⟩ := c
          exact ih m hm (by omega) em
        · refine ⟨some (n : Int), by omega, by omega, hn, fun e e0 en z => c ⟨e.toNat, by omega, ?_⟩⟩
          rw [show ((e.toNat : Nat) : Int) = e from by omega]
          exact z
    exact go 2000 (Nat.le_refl _) h
  · exact ⟨none, h⟩
theorem told_two {n : Nat} {L M : List Bar} {e : Int} {H : Hp} {x y : V} (lL : L.length ≤ 20) (lM : M.length ≤ 20) : ∀ {r : PF ⊕ (Int × List Int)}, PobOk L M e r → Told n H x y r → (x = .non ∧ (∃ q, y = .ref q) ∧ ¬ Exi L M e) ∨ ((∃ q, x = .ref q) ∧ y = .non ∧ Exi L M e)
  | .inl t, ⟨h, m⟩, ⟨f, q, e, _⟩ => .inr ⟨⟨q, e⟩, f, t, h, m⟩
  | .inr (s, as), ok, ⟨e, q, f, _⟩ => .inl ⟨e, ⟨q, f⟩, ban_no lL lM ok⟩
section
variable {P : Program} {w : World} {K : PySem.W.Frag} {mg : Str → Option Value} {base : Heap}
theorem oV_th {H : Hp} : ∀ o : Option Int, Th K H 0 (oV o) ∧ isB (oV o) = false
  | none => ⟨Th.non, rfl⟩
  | some n => ⟨Th.int n, rfl⟩
theorem same_bl {b : Bool} {H : Hp} {Q : VK} (k : Q (.bl false) H) : rNe (.bl b) (.bl b) H Q := ⟨rfl, by rw [decide_eq_true rfl]; exact k⟩
theorem same_o {o : Option Int} {H : Hp} {Q : VK} (k : Q (.bl false) H) : rNe (oV o) (oV o) H Q := ⟨by cases o <;> rfl, by rw [decide_eq_true rfl]; exact k⟩
abbrev lawN : List Str := ["_law_script", "_law_bag_here", "_law_most", "_law_one", "_law_other", "_law_number", "_law_told"]
theorem scLaw : FnScope lawN ["_law_script"] (defScope sLaw) := ⟨rfl, rfl, rfl, by decide +kernel, rfl, by decide +kernel, by decide +kernel⟩
theorem ok_law {f : Addr} {fd : FuncData} (F : L2.Fun K "law" "law" sLaw f fd) (T : Gb mg)
    (cB : Cal P w K mg base 1 "_law_bag" (spBag K) []) (cP : Cal P w K mg base 1 "_law_pick" spPick []) (cS : Cal P w K mg base 2 "_law_some" spSome []) (cL : Cal P w K mg base 4 "_law_lists" spLists [])
    (cPr : Cal P w K mg base 6 "pairing" (spTold 0) []) (cBa : Cal P w K mg base 6 "ban" (spTold 1) []) (cN : Cal P w K mg base 6 "nearest" spNear []) (cD : Cal P w K mg base 25 "_law_due" spDue []) (cSh : Cal P w K mg base 2 "_law_shuffled" spShuf []) : FnOk P w K mg base CX0 26 f fd ["_law_script"] (spLaw K) := by
  refine F.ok scLaw (fun vs H Q E h => ?_) (fun cdv A outer s H vs Q E hr h => ?_)
  · obtain ⟨a, ns, rfl, _⟩ := h
    rfl
  · obtain ⟨s0, ns, rfl, hS, hlen, kQ⟩ := h
    refine ⟨_, pss_cons (ps_set (i := 1) scLaw.nd rfl (Or.inl rfl) (C8.pe_c cB hr (by decide) (by rfl) (pa_cons (pv 0) pa_nil)))
      (C8.pss_cut (ps_set (i := 2) scLaw.nd rfl (Or.inl rfl) (pe_ifExp (pt_cmpR op_eq (C8.pe_c cP hr (by decide) (by rfl) (pa_cons (pv 1) (pa_cons pe_int pa_nil))) pe_int (nomark _)) pe_int pe_int))
      (C8.pss_cut (ps_asg (C8.pe_c cL hr (by decide) (by rfl) (pa_cons (pv 1) (pa_cons (C8.pe_c cS hr (by decide) (by rfl) (pa_cons (pv 1) (pa_cons (pe_lst (pa_cons pe_int (pa_cons pe_int (pa_cons pe_int pa_nil)))) pa_nil))) (pa_cons (pv 2) pa_nil)))) (pg_tup rfl (pgs_cons (pg_name (i := 3) scLaw.nd rfl (Or.inl rfl)) (pgs_cons (pg_name (i := 4) scLaw.nd rfl (Or.inl rfl)) pgs_nil))))
      (pss_cons (ps_set (i := 5) scLaw.nd rfl (Or.inl rfl) (C8.pe_c cD hr (by decide) (by rfl) (pa_cons (pv 3) (pa_cons (pv 4) pa_nil))))
      (C8.pss_cut (ps_for PassesOwn.never rfl (pi_tup (pe_tup (pa_cons (C8.pe_c cN hr (by decide) (by rfl) (pa_cons (pv 3) (pa_cons (pv 4) pa_nil))) (pa_cons (C8.pe_c cN hr (by decide) (by rfl) (pa_cons (pe_callTy call_tuple_of (by rfl) T.tup (by decide +kernel) (pa_cons (pv 4) pa_nil)) (pa_cons (pv 3) pa_nil))) pa_nil)))) (pg_name (i := 6) scLaw.nd rfl (Or.inl rfl))
      (pss_one (ps_if (PW.pt (pw_or (pt_cmpR op_ne (pe_cmpR op_isN (pv 6) pe_non (nomark _)) (pe_cmpR op_isN (pv 5) pe_non (nomark _)) (nomark _)) (pw_or (pt_val (pe_callB call_isi (by rfl) T.isi (by decide +kernel) (pa_cons (pv 6) (pa_cons (pe_bltn (v := .ty "bool") (by rfl) T.bool (by decide +kernel) rfl) pa_nil)))) (pw_or1 (pt_cmpR op_ne (pv 6) (pv 5) (nomark _)))))) (pss_one (ps_ret pe_bl)) pss_nil)))
      (pss_cons (ps_if (pt_cmpR op_isN (pv 5) pe_non (nomark _)) (pss_one (ps_ret (pe_and (pe_cmpR op_isN (C8.pe_c cPr hr (by decide) (by rfl) (pa_cons (pv 3) (pa_cons (pv 4) (pa_cons pe_int pa_nil)))) pe_non (nomark _)) (pe_one (pe_cmpR op_notN (C8.pe_c cBa hr (by decide) (by rfl) (pa_cons (pv 3) (pa_cons (pv 4) (pa_cons pe_int pa_nil)))) pe_non (nomark _)))))) pss_nil)
      (pss_cons (ps_if (PW.pt (pw_or (pt_cmpR op_isN (C8.pe_c cPr hr (by decide) (by rfl) (pa_cons (pv 3) (pa_cons (pv 4) (pa_cons (pv 5) pa_nil)))) pe_non (nomark _)) (pw_or1 (pt_cmpR op_notN (C8.pe_c cBa hr (by decide) (by rfl) (pa_cons (pv 3) (pa_cons (pv 4) (pa_cons (pv 5) pa_nil)))) pe_non (nomark _))))) (pss_one (ps_ret pe_bl)) pss_nil)
      (C8.pss_cut (ps_if (PW.pt (pw_and (pt_cmpR op_gt (pv 5) pe_int (nomark _)) (pw_and1 (PW.pt (pw_or (pt_cmpR op_notN (C8.pe_c cPr hr (by decide) (by rfl) (pa_cons (pv 3) (pa_cons (pv 4) (pa_cons (pe_op op_sub (pv 5) pe_int) pa_nil)))) pe_non (nomark _)) (pw_or1 (pt_cmpR op_isN (C8.pe_c cBa hr (by decide) (by rfl) (pa_cons (pv 3) (pa_cons (pv 4) (pa_cons (pe_op op_sub (pv 5) pe_int) pa_nil)))) pe_non (nomark _)))))))) (pss_one (ps_ret pe_bl)) pss_nil)
      (pss_one (ps_ret (pe_cmpR op_eq (C8.pe_c cN hr (by decide) (by rfl) (pa_cons (pv 3) (pa_cons (C8.pe_c cSh hr (by decide) (by rfl) (pa_cons (pv 1) (pa_cons (pv 3) pa_nil))) pa_nil))) pe_int (nomark _))))))))))), ?_⟩
    refine ⟨_, rfl, s0, ns, rfl, hS, hlen, fun r c H1 ex1 bag => ?_⟩
    refine ⟨fun σ' H' => ∃ m : Nat, σ' = [some (.ref s0), some (.ref r), some (.int (m : Int)), Option.none, Option.none, Option.none, Option.none] ∧ BagAt H' r c ∧ m ≤ 20, ?_, ?_⟩
    · refine ⟨_, rfl, r, c, 5, rfl, bag, by decide, by decide, fun k H3 k0 k6 g3 => ⟨rfl, _, rfl, ?_⟩⟩
      exact ite2 (fun _ => ⟨20, rfl, g3.1, Nat.le_refl _⟩) (fun _ => ⟨5, rfl, g3.1, by decide⟩)
    clear bag ex1
    rintro σ' H1 ⟨m, rfl, bag, m20⟩
    refine ⟨fun σ' H' => ∃ (o1 o2 : Addr) (L M : List Bar), σ' = [some (.ref s0), some (.ref r), some (.int (m : Int)), some (.ref o1), some (.ref o2), Option.none, Option.none] ∧ BagAt H' r c ∧ BL (Off r c H') o1 L ∧ BL (Off r c H') o2 M ∧ Right L ∧ Right M, ?_, ?_⟩
    · refine ⟨_, rfl, _, rfl, by show 3 ≤ sizeLine; decide, fun l nl => ?_⟩
      have gl := Go.new (o := .lst [V.int 15, .int 6, .int 1000]) bag nl
      obtain ⟨n1, n2⟩ := bag.ne nl
      refine ⟨r, c, l, _, rfl, gl.1, n1, n2, upd_same, (fun z => nomatch z), by show 3 ≤ 1000; decide, fun x H2 hx g2 => ?_⟩
      have hw : ∃ w : Int, x = .int w ∧ 1 ≤ w ∧ w ≤ 1000 := by
        simp only [List.mem_cons, List.not_mem_nil, or_false] at hx
        rcases hx with rfl | rfl | rfl
        · exact ⟨15, rfl, by decide, by decide⟩
        · exact ⟨6, rfl, by decide, by decide⟩
        · exact ⟨1000, rfl, by decide, by decide⟩
      obtain ⟨w, rfl, w1, w2⟩ := hw
      refine ⟨_, rfl, r, c, w, m, rfl, g2.1, w1, w2, m20, fun t o1 o2 L M H4 g4 ht b1 b2 lL lM oL oM => ?_⟩
      exact ⟨t, _, rfl, SqT.of ht, rfl, _, _, rfl, _, _, rfl, rfl, o1, o2, L, M, rfl, g4.1, b1, b2, ⟨by omega, oL⟩, ⟨by omega, oM⟩⟩
    clear bag
    rintro σ' H2 ⟨o1, o2, L, M, rfl, bag, b1, b2, rL, rM⟩
    obtain ⟨o, lo⟩ := least_ex L M
    refine ⟨_, rfl, _, rfl, o1, o2, L, M, o, rfl, b1.ext off_le, b2.ext off_le, rL, rM, lo, fun H3 x3 => ?_⟩
    have g3 := Go.of_ext bag x3
    replace bag := g3.1
    replace b1 := b1.ext g3.off
    replace b2 := b2.ext g3.off
    clear g3 x3
    refine ⟨fun σ' J => ∃ v6 : Option V, σ' = [some (.ref s0), some (.ref r), some (.int (m : Int)), some (.ref o1), some (.ref o2), some (oV o), v6] ∧ BagAt J r c ∧ BL (Off r c J) o1 L ∧ BL (Off r c J) o2 M, ?_, ?_⟩
    · refine ⟨_, rfl, _, rfl, o1, o2, L, M, o, rfl, (b1.ext off_le).bs, (b2.ext off_le).bs, rL, rM, lo, fun K1 x1 => ?_⟩
      obtain ⟨bs, hb, bt⟩ := id b2
      have x0 : Ext (Off r c H3) H3 := off_le
      refine ⟨_, rfl, o2, _, rfl, .inl ⟨SqL.of (x1 _ _ (x0 _ _ hb)), fun t nt => ?_⟩⟩
      have xt := x1.trans (Ext.upd (o := .tup (bs.map V.ref)) nt)
      refine ⟨_, rfl, t, o1, M, L, o, rfl, ⟨bs, .inr upd_same, bt.mono fun _ _ z => xt _ _ (x0 _ _ z)⟩, ((b1.ext off_le).ext xt).bs, rM, rL, lo.symm, fun K2 x2 => ?_⟩
      have x12 := xt.trans x2
      refine ⟨by show 2 ≤ sizeLine; decide, fun q nq => ?_⟩
      have xq := x12.trans (Ext.upd (o := .tup [oV o, oV o]) nq)
      have hq : (upd K2 q (.tup [oV o, oV o])) q = some (.tup [oV o, oV o]) := upd_same
      generalize upd K2 q (.tup [oV o, oV o]) = K3 at *
      refine ⟨q, rfl, ⟨_, SqT.of hq⟩, ?_⟩
      have gq := Go.of_ext bag xq
      refine for_it walk_tup (fun i σ' J => (∃ v6 : Option V, σ' = [some (.ref s0), some (.ref r), some (.int (m : Int)), some (.ref o1), some (.ref o2), some (oV o), v6]) ∧ J = K3) ⟨⟨_, rfl⟩, rfl⟩ (fun i σ' J _ z => by rw [z.2]; exact SqT.of hq) ?_ ?_
      · rintro i y σ' J J' hi ⟨⟨v6, rfl⟩, rfl⟩ ⟨rfl, hy⟩
        obtain rfl : y = oV o := by
          have hm := List.mem_of_getElem? hy
          simp only [List.mem_cons, List.not_mem_nil, or_false, or_self] at hm
          exact hm
        obtain ⟨th, nb⟩ := oV_th (K := K) (H := J') o
        unfold Th at th
        obtain ⟨t0, ty, _, kb, _⟩ := th
        rw [nb] at kb
        refine ⟨_, rfl, rfl, _, rfl, rfl, same_bl ⟨_, rfl, iteF ?_⟩⟩
        refine ⟨_, rfl, oV o, .ty "bool", t0, .type "bool", _, rfl, .ty _, ty, kb, _, rfl, iteF ?_⟩
        exact ⟨_, rfl, _, rfl, same_o ⟨_, rfl, iteF ⟨⟨_, rfl⟩, rfl⟩⟩⟩
      · rintro σ' J ⟨⟨v6, rfl⟩, rfl⟩
        exact ⟨_, rfl, gq.1, b1.ext gq.off, b2.ext gq.off⟩
    rintro σ' H4 ⟨v6, rfl, bag, b1, b2⟩
    have c1 : BL H4 o1 L := b1.ext off_le
    have c2 : BL H4 o2 M := b2.ext off_le
    have nr : ∀ q : Addr, decide (V.ref q = V.non) = false := fun q => decide_eq_false fun z => nomatch z
    have nn : decide (V.non = V.non) = true := decide_eq_true rfl
    cases o with
    | none =>
      have no : ¬ Exi L M 2000 := lo
      refine ⟨_, rfl, rfl, _, rfl, ?_⟩
      refine ite2 (fun _ => ?_) (fun z => absurd nn z)
      obtain ⟨r1, pr1, ok1⟩ := pob_ok L M 2000 rL.1 rM.1
      refine ⟨_, rfl, _, rfl, o1, o2, L, M, 2000, r1, rfl, c1.bs, c2.bs, rL, rM, by decide, by decide, pr1, fun x y K1 x1 td => ?_⟩
      rcases told_two rL.1 rM.1 ok1 td with ⟨rfl, ⟨q, rfl⟩, _⟩ | ⟨_, _, z⟩
      · refine ⟨rfl, _, rfl, ?_⟩
        refine ite2 (fun _ => ?_) (fun z => absurd nn z)
        refine ⟨_, rfl, _, rfl, o1, o2, L, M, 2000, r1, rfl, (c1.ext x1).bs, (c2.ext x1).bs, rL, rM, by decide, by decide, pr1, fun x y K2 x2 td => ?_⟩
        rcases told_two rL.1 rM.1 ok1 td with ⟨rfl, ⟨q, rfl⟩, _⟩ | ⟨_, _, z⟩
        · refine ⟨rfl, ?_⟩
          have e : (!decide (V.ref q = V.non)) = true := by rw [nr]; rfl
          show Q (.bl (!decide (V.ref q = V.non))) K2
          rw [e]
          exact kQ _
        · exact absurd z no
      · exact absurd z no
    | some n =>
      obtain ⟨n0, n2000, yes, least⟩ := id lo
      have dn : decide (V.int n = V.non) = false := decide_eq_false fun z => nomatch z
      refine ⟨_, rfl, rfl, _, rfl, ?_⟩
      refine ite2 (fun z => absurd (z.symm.trans dn) (by decide)) (fun _ => ?_)
      obtain ⟨r1, pr1, ok1⟩ := pob_ok L M n rL.1 rM.1
      refine ⟨_, rfl, _, rfl, _, rfl, o1, o2, L, M, n, r1, rfl, c1.bs, c2.bs, rL, rM, n0, n2000, pr1, fun x y K1 x1 td => ?_⟩
      rcases told_two rL.1 rM.1 ok1 td with ⟨_, _, z⟩ | ⟨⟨q, rfl⟩, _, _⟩
      · exact absurd yes z
      refine ⟨rfl, _, rfl, ?_⟩
      refine ite2 (fun z => absurd (z.symm.trans (nr q)) (by decide)) (fun _ => ?_)
      refine ⟨_, rfl, _, rfl, _, rfl, o1, o2, L, M, n, r1, rfl, (c1.ext x1).bs, (c2.ext x1).bs, rL, rM, n0, n2000, pr1, fun x y K2 x2 td => ?_⟩
      rcases told_two rL.1 rM.1 ok1 td with ⟨_, _, z⟩ | ⟨_, rfl, _⟩
      · exact absurd yes z
      refine ⟨rfl, _, rfl, ?_⟩
      refine ite2 (fun z => absurd z (show ¬ (!decide (V.non = V.non)) = true by decide)) (fun _ => ?_)
      have x12 := x1.trans x2
      refine ⟨fun σ' J => σ' = [some (.ref s0), some (.ref r), some (.int (m : Int)), some (.ref o1), some (.ref o2), some (.int n), v6] ∧ Ext H4 J, ?_, ?_⟩
      · refine ⟨_, rfl, _, _, rfl, rfl, _, rfl, ?_⟩
        refine ite2 (fun z => ?_) (fun _ => iteF ⟨rfl, x12⟩)
        have pos : 0 < n := of_decide_eq_true z
        obtain ⟨r2, pr2, ok2⟩ := pob_ok L M (n - 1) rL.1 rM.1
        have no : ¬ Exi L M (n - 1) := least _ (by omega) (by omega)
        refine ⟨_, rfl, _, rfl, _, rfl, _, _, rfl, rfl, o1, o2, L, M, n - 1, r2, rfl, (c1.ext x12).bs, (c2.ext x12).bs, rL, rM, by omega, by omega, pr2, fun x y K3 x3 td => ?_⟩
        rcases told_two rL.1 rM.1 ok2 td with ⟨rfl, _, _⟩ | ⟨_, _, z⟩
        · refine ⟨rfl, _, rfl, ?_⟩
          refine ite2 (fun z => absurd z (show ¬ (!decide (V.non = V.non)) = true by decide)) (fun _ => ?_)
          have x13 := x12.trans x3
          refine ⟨_, rfl, _, rfl, _, rfl, _, _, rfl, rfl, o1, o2, L, M, n - 1, r2, rfl, (c1.ext x13).bs, (c2.ext x13).bs, rL, rM, by omega, by omega, pr2, fun x y K4 x4 td => ?_⟩
          rcases told_two rL.1 rM.1 ok2 td with ⟨_, ⟨q, rfl⟩, _⟩ | ⟨_, _, z⟩
          · refine ⟨rfl, _, rfl, ?_⟩
            refine ite2 (fun z => absurd (z.symm.trans (nr q)) (by decide)) (fun _ => ?_)
            exact ⟨rfl, x13.trans x4⟩
          · exact absurd z no
        · exact absurd z no
      · rintro σ' J ⟨rfl, xJ⟩
        have gJ := Go.of_ext bag xJ
        refine ⟨_, rfl, _, rfl, _, rfl, r, c, o1, L, rfl, gJ.1, b1.ext gJ.off, rL.1, fun q ks K3 g3 bq nd all rng => ?_⟩
        have lk : ks.length ≤ L.length := by
          have := nodup_below L.length (ks.map fun i : Nat => (i : Int)) (nodup_on (fun i _ j _ e => by omega) nd) fun i hi => by
            obtain ⟨j, hj, rfl⟩ := List.mem_map.mp hi
            have := rng j hj
            omega
          rwa [List.length_map] at this
        have rL' : Right (ks.map fun i => L.getD i (0, none)) := ⟨by rw [List.length_map]; have := rL.1; omega, fun b hb => by
          obtain ⟨i, hi, rfl⟩ := List.mem_map.mp hb
          have li := rng i hi
          show okBar (L.getD i (0, none))
          rw [List.getD_eq_getElem?_getD, List.getElem?_eq_getElem li]
          exact rL.2 _ (List.getElem_mem li)⟩
        refine ⟨o1, q, L, _, some 0, rfl, ((b1.ext (gJ.trans g3).off).ext off_le).bs, (bq.ext off_le).bs, rL, rL', least_zero (exi_perm nd all rng), fun K4 x4 => ⟨rfl, ?_⟩⟩
        show Q (.bl (decide (V.int 0 = V.int 0))) K4
        rw [decide_eq_true rfl]
        exact kQ _
end
end E47.J

set_option Elab.async false
set_option linter.all false
set_option maxRecDepth 100000
set_option maxHeartbeats 8000000
namespace E47.J
open PySem L2
theorem exm_self {K : PySem.W.Frag} {S : Addr} (h1 : PySem.W.subIn K (.ref S) (.type "BaseException") = some true) (h2 : PySem.W.isClsIn K S = true) (h3 : PySem.W.typeIn K (.ref S) = some (.type "type")) (h4 : PySem.W.subIn K (.ref S) (.ref S) = some true) :
    PySem.W.exmOne K (.ref S) (.ref S) = some true := by
  have h2' : (PySem.W.clsIn K S).isSome = true := h2
  unfold PySem.W.exmOne PySem.W.kitCls
  simp only [h1, h2', h3, h4, beq_self_eq_true, Bool.and_self, if_true]
theorem kit_ref {K : PySem.W.Frag} {t : Value} {C : Addr} {b : Bool} (h2 : PySem.W.isClsIn K C = true) (h3 : PySem.W.typeIn K (.ref C) = some (.type "type")) (h4 : PySem.W.subIn K (.ref C) (.ref C) = some true) (h5 : PySem.W.subIn K t (.ref C) = some b) :
    PySem.W.kitOne K t (.ref C) = some b := by
  have h2' : (PySem.W.clsIn K C).isSome = true := h2
  unfold PySem.W.kitOne PySem.W.kitCls
  by_cases e : (t == .ref C) = true
  · have e' := beq_iff_eq.mp e
    subst e'
    rw [h4] at h5
    rw [if_pos e, ← h5]
  · rw [if_neg e]
    simp only [h2', h3, h5, beq_self_eq_true, Bool.and_self, if_true]
theorem kit_tyc {K : PySem.W.Frag} {C : Addr} {s : String} {b : Bool} (h : PySem.W.kitMeta s = true) (h5 : PySem.W.subIn K (.ref C) (.type s) = some b) : PySem.W.kitOne K (.ref C) (.type s) = some b := by
  unfold PySem.W.kitOne PySem.W.kitCls
  rw [if_neg (by intro z; exact nomatch beq_iff_eq.mp z)]
  simp only [h, h5, if_true]
theorem exm_ref {K : PySem.W.Frag} {t : Value} {S : Addr} {b : Bool} (h1 : PySem.W.subIn K (.ref S) (.type "BaseException") = some true) (h2 : PySem.W.isClsIn K S = true) (h3 : PySem.W.typeIn K (.ref S) = some (.type "type")) (h4 : PySem.W.subIn K t (.ref S) = some b) :
    PySem.W.exmOne K t (.ref S) = some b := by
  have h2' : (PySem.W.clsIn K S).isSome = true := h2
  unfold PySem.W.exmOne PySem.W.kitCls
  simp only [h1, h2', h3, h4, beq_self_eq_true, Bool.and_self, if_true]
theorem all_mk {l : PySem.W.OpenLaw} {w : World} {K : PySem.W.Frag} {h : Heap} {mg : Str → Option Value} {fa : Addr} {NB NN f1 f2 f11 f12 f13 f14 f15 f16 f17 f18 f19 f20 f21 f22 f23 f24 f25 f27 f28 f29 f30 f31 f32 f33 f34 f35 f36 f37 f38 f39 f40 f41 f42 fI : Addr} (X : K.In h) (G : h.Ns mainGlobals mg) (hfa : mg "law" = some (.ref fa))
    {oc1 kV1 dc1 pm1 cd1 ct1 : Value} {od1 an1 : Option Addr} {sl1 : Array (Option Value)}
    {oc2 kV2 dc2 pm2 cd2 ct2 : Value} {od2 an2 : Option Addr} {sl2 : Array (Option Value)}
    {oc11 kV11 dc11 pm11 cd11 ct11 : Value} {od11 an11 : Option Addr} {sl11 : Array (Option Value)}
    {oc12 kV12 dc12 pm12 cd12 ct12 : Value} {od12 an12 : Option Addr} {sl12 : Array (Option Value)}
    {oc13 kV13 dc13 pm13 cd13 ct13 : Value} {od13 an13 : Option Addr} {sl13 : Array (Option Value)}
    {oc14 kV14 dc14 pm14 cd14 ct14 : Value} {od14 an14 : Option Addr} {sl14 : Array (Option Value)}
    {oc15 kV15 dc15 pm15 cd15 ct15 : Value} {od15 an15 : Option Addr} {sl15 : Array (Option Value)}
    {oc16 kV16 dc16 pm16 cd16 ct16 : Value} {od16 an16 : Option Addr} {sl16 : Array (Option Value)}
    {oc17 kV17 dc17 pm17 cd17 ct17 : Value} {od17 an17 : Option Addr} {sl17 : Array (Option Value)}
    {oc18 kV18 dc18 pm18 cd18 ct18 : Value} {od18 an18 : Option Addr} {sl18 : Array (Option Value)}
    {oc19 kV19 dc19 pm19 cd19 ct19 : Value} {od19 an19 : Option Addr} {sl19 : Array (Option Value)}
    {oc20 kV20 dc20 pm20 cd20 ct20 : Value} {od20 an20 : Option Addr} {sl20 : Array (Option Value)}
    {oc21 kV21 dc21 pm21 cd21 ct21 : Value} {od21 an21 : Option Addr} {sl21 : Array (Option Value)}
    {oc22 kV22 dc22 pm22 cd22 ct22 : Value} {od22 an22 : Option Addr} {sl22 : Array (Option Value)}
    {oc23 kV23 dc23 pm23 cd23 ct23 : Value} {od23 an23 : Option Addr} {sl23 : Array (Option Value)}
    {oc24 kV24 dc24 pm24 cd24 ct24 : Value} {od24 an24 : Option Addr} {sl24 : Array (Option Value)}
    {oc25 kV25 dc25 pm25 cd25 ct25 : Value} {od25 an25 : Option Addr} {sl25 : Array (Option Value)}
    {oc27 kV27 dc27 pm27 cd27 ct27 : Value} {od27 an27 : Option Addr} {sl27 : Array (Option Value)}
    {oc28 kV28 dc28 pm28 cd28 ct28 : Value} {od28 an28 : Option Addr} {sl28 : Array (Option Value)}
    {oc29 kV29 dc29 pm29 cd29 ct29 : Value} {od29 an29 : Option Addr} {sl29 : Array (Option Value)}
    {oc30 kV30 dc30 pm30 cd30 ct30 : Value} {od30 an30 : Option Addr} {sl30 : Array (Option Value)}
    {oc31 kV31 dc31 pm31 cd31 ct31 : Value} {od31 an31 : Option Addr} {sl31 : Array (Option Value)}
    {oc32 kV32 dc32 pm32 cd32 ct32 : Value} {od32 an32 : Option Addr} {sl32 : Array (Option Value)}
    {oc33 kV33 dc33 pm33 cd33 ct33 : Value} {od33 an33 : Option Addr} {sl33 : Array (Option Value)}
    {oc34 kV34 dc34 pm34 cd34 ct34 : Value} {od34 an34 : Option Addr} {sl34 : Array (Option Value)}
    {oc35 kV35 dc35 pm35 cd35 ct35 : Value} {od35 an35 : Option Addr} {sl35 : Array (Option Value)}
    {oc36 kV36 dc36 pm36 cd36 ct36 : Value} {od36 an36 : Option Addr} {sl36 : Array (Option Value)}
    {oc37 kV37 dc37 pm37 cd37 ct37 : Value} {od37 an37 : Option Addr} {sl37 : Array (Option Value)}
    {oc38 kV38 dc38 pm38 cd38 ct38 : Value} {od38 an38 : Option Addr} {sl38 : Array (Option Value)}
    {oc39 kV39 dc39 pm39 cd39 ct39 : Value} {od39 an39 : Option Addr} {sl39 : Array (Option Value)}
    {oc40 kV40 dc40 pm40 cd40 ct40 : Value} {od40 an40 : Option Addr} {sl40 : Array (Option Value)}
    {oc41 kV41 dc41 pm41 cd41 ct41 : Value} {od41 an41 : Option Addr} {sl41 : Array (Option Value)}
    {oc42 kV42 dc42 pm42 cd42 ct42 : Value} {od42 an42 : Option Addr} {sl42 : Array (Option Value)}
    {ocI kVI dcI pmI cdI ctI : Value} {odI anI : Option Addr} {slI : Array (Option Value)}
    {tMOST_BARS}
    {tMOST_MOMENT}
    {tMOST_APART}
    {nmNB qNB : Str} {NNB : Addr} {bsNB bmNB : List Value} {snNB : List Str} {subNB : List Value} {abNB : Bool} {colNB : Option Bool} {ddNB : Option Addr} {m0NB m1NB m2NB m3NB m5NB : Option Value}
    {nmNN qNN : Str} {NNN : Addr} {bsNN bmNN : List Value} {snNN : List Str} {subNN : List Value} {abNN : Bool} {colNN : Option Bool} {ddNN : Option Addr} {m0NN m1NN m2NN m3NN m5NN : Option Value}
    (gNB : PySem.W.nsIn K mainGlobals "NoBars" = some (some (.ref NB)))
    (gNN : PySem.W.nsIn K mainGlobals "NoNumber" = some (some (.ref NN)))
    (a1 : PySem.W.nsIn K mainGlobals "is_integer" = some (some (.ref f1)))
    (l1 : K.lookup f1 = some ⟨oc1, od1, .func (PySem.W.fnOf "is_integer" "is_integer" (defArgs sInteger) (defBody sInteger) (defScope sInteger) .none kV1 dc1 pm1 an1 cd1 ct1), sl1⟩)
    (c1 : PySem.W.codeIn K cd1 "is_integer" = true)
    (k1 : PySem.W.keepIn K (.ref f1) = true)
    (a2 : PySem.W.nsIn K mainGlobals "is_number" = some (some (.ref f2)))
    (l2 : K.lookup f2 = some ⟨oc2, od2, .func (PySem.W.fnOf "is_number" "is_number" (defArgs sNumber) (defBody sNumber) (defScope sNumber) .none kV2 dc2 pm2 an2 cd2 ct2), sl2⟩)
    (c2 : PySem.W.codeIn K cd2 "is_number" = true)
    (k2 : PySem.W.keepIn K (.ref f2) = true)
    (a11 : PySem.W.nsIn K mainGlobals "is_moment" = some (some (.ref f11)))
    (l11 : K.lookup f11 = some ⟨oc11, od11, .func (PySem.W.fnOf "is_moment" "is_moment" (defArgs sMoment) (defBody sMoment) (defScope sMoment) .none kV11 dc11 pm11 an11 cd11 ct11), sl11⟩)
    (c11 : PySem.W.codeIn K cd11 "is_moment" = true)
    (k11 : PySem.W.keepIn K (.ref f11) = true)
    (a12 : PySem.W.nsIn K mainGlobals "is_bar" = some (some (.ref f12)))
    (l12 : K.lookup f12 = some ⟨oc12, od12, .func (PySem.W.fnOf "is_bar" "is_bar" (defArgs sIsBar) (defBody sIsBar) (defScope sIsBar) .none kV12 dc12 pm12 an12 cd12 ct12), sl12⟩)
    (c12 : PySem.W.codeIn K cd12 "is_bar" = true)
    (k12 : PySem.W.keepIn K (.ref f12) = true)
    (a13 : PySem.W.nsIn K mainGlobals "demand_bars" = some (some (.ref f13)))
    (l13 : K.lookup f13 = some ⟨oc13, od13, .func (PySem.W.fnOf "demand_bars" "demand_bars" (defArgs sDemB) (defBody sDemB) (defScope sDemB) .none kV13 dc13 pm13 an13 cd13 ct13), sl13⟩)
    (c13 : PySem.W.codeIn K cd13 "demand_bars" = true)
    (k13 : PySem.W.keepIn K (.ref f13) = true)
    (a14 : PySem.W.nsIn K mainGlobals "demand_both" = some (some (.ref f14)))
    (l14 : K.lookup f14 = some ⟨oc14, od14, .func (PySem.W.fnOf "demand_both" "demand_both" (defArgs sDem2) (defBody sDem2) (defScope sDem2) .none kV14 dc14 pm14 an14 cd14 ct14), sl14⟩)
    (c14 : PySem.W.codeIn K cd14 "demand_both" = true)
    (k14 : PySem.W.keepIn K (.ref f14) = true)
    (a15 : PySem.W.nsIn K mainGlobals "fit" = some (some (.ref f15)))
    (l15 : K.lookup f15 = some ⟨oc15, od15, .func (PySem.W.fnOf "fit" "fit" (defArgs sFit) (defBody sFit) (defScope sFit) .none kV15 dc15 pm15 an15 cd15 ct15), sl15⟩)
    (c15 : PySem.W.codeIn K cd15 "fit" = true)
    (k15 : PySem.W.keepIn K (.ref f15) = true)
    (a16 : PySem.W.nsIn K mainGlobals "is_short" = some (some (.ref f16)))
    (l16 : K.lookup f16 = some ⟨oc16, od16, .func (PySem.W.fnOf "is_short" "is_short" (defArgs sShort) (defBody sShort) (defScope sShort) .none kV16 dc16 pm16 an16 cd16 ct16), sl16⟩)
    (c16 : PySem.W.codeIn K cd16 "is_short" = true)
    (k16 : PySem.W.keepIn K (.ref f16) = true)
    (a17 : PySem.W.nsIn K mainGlobals "long_numbers" = some (some (.ref f17)))
    (l17 : K.lookup f17 = some ⟨oc17, od17, .func (PySem.W.fnOf "long_numbers" "long_numbers" (defArgs sLong) (defBody sLong) (defScope sLong) .none kV17 dc17 pm17 an17 cd17 ct17), sl17⟩)
    (c17 : PySem.W.codeIn K cd17 "long_numbers" = true)
    (k17 : PySem.W.keepIn K (.ref f17) = true)
    (a18 : PySem.W.nsIn K mainGlobals "fitting" = some (some (.ref f18)))
    (l18 : K.lookup f18 = some ⟨oc18, od18, .func (PySem.W.fnOf "fitting" "fitting" (defArgs sFitting) (defBody sFitting) (defScope sFitting) .none kV18 dc18 pm18 an18 cd18 ct18), sl18⟩)
    (c18 : PySem.W.codeIn K cd18 "fitting" = true)
    (k18 : PySem.W.keepIn K (.ref f18) = true)
    (a19 : PySem.W.nsIn K mainGlobals "shift" = some (some (.ref f19)))
    (l19 : K.lookup f19 = some ⟨oc19, od19, .func (PySem.W.fnOf "shift" "shift" (defArgs sShift) (defBody sShift) (defScope sShift) .none kV19 dc19 pm19 an19 cd19 ct19), sl19⟩)
    (c19 : PySem.W.codeIn K cd19 "shift" = true)
    (k19 : PySem.W.keepIn K (.ref f19) = true)
    (a20 : PySem.W.nsIn K mainGlobals "place_bar" = some (some (.ref f20)))
    (l20 : K.lookup f20 = some ⟨oc20, od20, .func (PySem.W.fnOf "place_bar" "place_bar" (defArgs sPlace) (defBody sPlace) (defScope sPlace) .none kV20 dc20 pm20 an20 cd20 ct20), sl20⟩)
    (c20 : PySem.W.codeIn K cd20 "place_bar" = true)
    (k20 : PySem.W.keepIn K (.ref f20) = true)
    (a21 : PySem.W.nsIn K mainGlobals "place_all" = some (some (.ref f21)))
    (l21 : K.lookup f21 = some ⟨oc21, od21, .func (PySem.W.fnOf "place_all" "place_all" (defArgs sAll) (defBody sAll) (defScope sAll) .none kV21 dc21 pm21 an21 cd21 ct21), sl21⟩)
    (c21 : PySem.W.codeIn K cd21 "place_all" = true)
    (k21 : PySem.W.keepIn K (.ref f21) = true)
    (a22 : PySem.W.nsIn K mainGlobals "paired_or_banned" = some (some (.ref f22)))
    (l22 : K.lookup f22 = some ⟨oc22, od22, .func (PySem.W.fnOf "paired_or_banned" "paired_or_banned" (defArgs sPob) (defBody sPob) (defScope sPob) .none kV22 dc22 pm22 an22 cd22 ct22), sl22⟩)
    (c22 : PySem.W.codeIn K cd22 "paired_or_banned" = true)
    (k22 : PySem.W.keepIn K (.ref f22) = true)
    (a23 : PySem.W.nsIn K mainGlobals "pairing" = some (some (.ref f23)))
    (l23 : K.lookup f23 = some ⟨oc23, od23, .func (PySem.W.fnOf "pairing" "pairing" (defArgs sPairing) (defBody sPairing) (defScope sPairing) .none kV23 dc23 pm23 an23 cd23 ct23), sl23⟩)
    (c23 : PySem.W.codeIn K cd23 "pairing" = true)
    (k23 : PySem.W.keepIn K (.ref f23) = true)
    (a24 : PySem.W.nsIn K mainGlobals "ban" = some (some (.ref f24)))
    (l24 : K.lookup f24 = some ⟨oc24, od24, .func (PySem.W.fnOf "ban" "ban" (defArgs sBan) (defBody sBan) (defScope sBan) .none kV24 dc24 pm24 an24 cd24 ct24), sl24⟩)
    (c24 : PySem.W.codeIn K cd24 "ban" = true)
    (k24 : PySem.W.keepIn K (.ref f24) = true)
    (a25 : PySem.W.nsIn K mainGlobals "nearest" = some (some (.ref f25)))
    (l25 : K.lookup f25 = some ⟨oc25, od25, .func (PySem.W.fnOf "nearest" "nearest" (defArgs sNearest) (defBody sNearest) (defScope sNearest) .none kV25 dc25 pm25 an25 cd25 ct25), sl25⟩)
    (c25 : PySem.W.codeIn K cd25 "nearest" = true)
    (k25 : PySem.W.keepIn K (.ref f25) = true)
    (a27 : PySem.W.nsIn K mainGlobals "_law_bag" = some (some (.ref f27)))
    (l27 : K.lookup f27 = some ⟨oc27, od27, .func (PySem.W.fnOf "_law_bag" "_law_bag" (defArgs sBag) (defBody sBag) (defScope sBag) .none kV27 dc27 pm27 an27 cd27 ct27), sl27⟩)
    (c27 : PySem.W.codeIn K cd27 "_law_bag" = true)
    (k27 : PySem.W.keepIn K (.ref f27) = true)
    (a28 : PySem.W.nsIn K mainGlobals "_law_pick" = some (some (.ref f28)))
    (l28 : K.lookup f28 = some ⟨oc28, od28, .func (PySem.W.fnOf "_law_pick" "_law_pick" (defArgs sPick) (defBody sPick) (defScope sPick) .none kV28 dc28 pm28 an28 cd28 ct28), sl28⟩)
    (c28 : PySem.W.codeIn K cd28 "_law_pick" = true)
    (k28 : PySem.W.keepIn K (.ref f28) = true)
    (a29 : PySem.W.nsIn K mainGlobals "_law_some" = some (some (.ref f29)))
    (l29 : K.lookup f29 = some ⟨oc29, od29, .func (PySem.W.fnOf "_law_some" "_law_some" (defArgs sSome) (defBody sSome) (defScope sSome) .none kV29 dc29 pm29 an29 cd29 ct29), sl29⟩)
    (c29 : PySem.W.codeIn K cd29 "_law_some" = true)
    (k29 : PySem.W.keepIn K (.ref f29) = true)
    (a30 : PySem.W.nsIn K mainGlobals "_law_fits" = some (some (.ref f30)))
    (l30 : K.lookup f30 = some ⟨oc30, od30, .func (PySem.W.fnOf "_law_fits" "_law_fits" (defArgs sFits) (defBody sFits) (defScope sFits) .none kV30 dc30 pm30 an30 cd30 ct30), sl30⟩)
    (c30 : PySem.W.codeIn K cd30 "_law_fits" = true)
    (k30 : PySem.W.keepIn K (.ref f30) = true)
    (a31 : PySem.W.nsIn K mainGlobals "_law_is_long" = some (some (.ref f31)))
    (l31 : K.lookup f31 = some ⟨oc31, od31, .func (PySem.W.fnOf "_law_is_long" "_law_is_long" (defArgs sIsLong) (defBody sIsLong) (defScope sIsLong) .none kV31 dc31 pm31 an31 cd31 ct31), sl31⟩)
    (c31 : PySem.W.codeIn K cd31 "_law_is_long" = true)
    (k31 : PySem.W.keepIn K (.ref f31) = true)
    (a32 : PySem.W.nsIn K mainGlobals "_law_paired" = some (some (.ref f32)))
    (l32 : K.lookup f32 = some ⟨oc32, od32, .func (PySem.W.fnOf "_law_paired" "_law_paired" (defArgs sPaired) (defBody sPaired) (defScope sPaired) .none kV32 dc32 pm32 an32 cd32 ct32), sl32⟩)
    (c32 : PySem.W.codeIn K cd32 "_law_paired" = true)
    (k32 : PySem.W.keepIn K (.ref f32) = true)
    (a33 : PySem.W.nsIn K mainGlobals "_law_found_for" = some (some (.ref f33)))
    (l33 : K.lookup f33 = some ⟨oc33, od33, .func (PySem.W.fnOf "_law_found_for" "_law_found_for" (defArgs sFound) (defBody sFound) (defScope sFound) .none kV33 dc33 pm33 an33 cd33 ct33), sl33⟩)
    (c33 : PySem.W.codeIn K cd33 "_law_found_for" = true)
    (k33 : PySem.W.keepIn K (.ref f33) = true)
    (a34 : PySem.W.nsIn K mainGlobals "_law_all_found" = some (some (.ref f34)))
    (l34 : K.lookup f34 = some ⟨oc34, od34, .func (PySem.W.fnOf "_law_all_found" "_law_all_found" (defArgs sAllF) (defBody sAllF) (defScope sAllF) .none kV34 dc34 pm34 an34 cd34 ct34), sl34⟩)
    (c34 : PySem.W.codeIn K cd34 "_law_all_found" = true)
    (k34 : PySem.W.keepIn K (.ref f34) = true)
    (a35 : PySem.W.nsIn K mainGlobals "_law_is_there" = some (some (.ref f35)))
    (l35 : K.lookup f35 = some ⟨oc35, od35, .func (PySem.W.fnOf "_law_is_there" "_law_is_there" (defArgs sThere) (defBody sThere) (defScope sThere) .none kV35 dc35 pm35 an35 cd35 ct35), sl35⟩)
    (c35 : PySem.W.codeIn K cd35 "_law_is_there" = true)
    (k35 : PySem.W.keepIn K (.ref f35) = true)
    (a36 : PySem.W.nsIn K mainGlobals "_law_bar" = some (some (.ref f36)))
    (l36 : K.lookup f36 = some ⟨oc36, od36, .func (PySem.W.fnOf "_law_bar" "_law_bar" (defArgs sLBar) (defBody sLBar) (defScope sLBar) .none kV36 dc36 pm36 an36 cd36 ct36), sl36⟩)
    (c36 : PySem.W.codeIn K cd36 "_law_bar" = true)
    (k36 : PySem.W.keepIn K (.ref f36) = true)
    (a37 : PySem.W.nsIn K mainGlobals "_law_moved" = some (some (.ref f37)))
    (l37 : K.lookup f37 = some ⟨oc37, od37, .func (PySem.W.fnOf "_law_moved" "_law_moved" (defArgs sMoved) (defBody sMoved) (defScope sMoved) .none kV37 dc37 pm37 an37 cd37 ct37), sl37⟩)
    (c37 : PySem.W.codeIn K cd37 "_law_moved" = true)
    (k37 : PySem.W.keepIn K (.ref f37) = true)
    (a38 : PySem.W.nsIn K mainGlobals "_law_lists" = some (some (.ref f38)))
    (l38 : K.lookup f38 = some ⟨oc38, od38, .func (PySem.W.fnOf "_law_lists" "_law_lists" (defArgs sLists) (defBody sLists) (defScope sLists) .none kV38 dc38 pm38 an38 cd38 ct38), sl38⟩)
    (c38 : PySem.W.codeIn K cd38 "_law_lists" = true)
    (k38 : PySem.W.keepIn K (.ref f38) = true)
    (a39 : PySem.W.nsIn K mainGlobals "_law_steps" = some (some (.ref f39)))
    (l39 : K.lookup f39 = some ⟨oc39, od39, .func (PySem.W.fnOf "_law_steps" "_law_steps" (defArgs sSteps) (defBody sSteps) (defScope sSteps) .none kV39 dc39 pm39 an39 cd39 ct39), sl39⟩)
    (c39 : PySem.W.codeIn K cd39 "_law_steps" = true)
    (k39 : PySem.W.keepIn K (.ref f39) = true)
    (a40 : PySem.W.nsIn K mainGlobals "_law_due" = some (some (.ref f40)))
    (l40 : K.lookup f40 = some ⟨oc40, od40, .func (PySem.W.fnOf "_law_due" "_law_due" (defArgs sDue) (defBody sDue) (defScope sDue) .none kV40 dc40 pm40 an40 cd40 ct40), sl40⟩)
    (c40 : PySem.W.codeIn K cd40 "_law_due" = true)
    (k40 : PySem.W.keepIn K (.ref f40) = true)
    (a41 : PySem.W.nsIn K mainGlobals "_law_shuffled" = some (some (.ref f41)))
    (l41 : K.lookup f41 = some ⟨oc41, od41, .func (PySem.W.fnOf "_law_shuffled" "_law_shuffled" (defArgs sShuf) (defBody sShuf) (defScope sShuf) .none kV41 dc41 pm41 an41 cd41 ct41), sl41⟩)
    (c41 : PySem.W.codeIn K cd41 "_law_shuffled" = true)
    (k41 : PySem.W.keepIn K (.ref f41) = true)
    (a42 : PySem.W.nsIn K mainGlobals "law" = some (some (.ref f42)))
    (l42 : K.lookup f42 = some ⟨oc42, od42, .func (PySem.W.fnOf "law" "law" (defArgs sLaw) (defBody sLaw) (defScope sLaw) .none kV42 dc42 pm42 an42 cd42 ct42), sl42⟩)
    (c42 : PySem.W.codeIn K cd42 "law" = true)
    (k42 : PySem.W.keepIn K (.ref f42) = true)
    (aI : PySem.W.findIn K (.ref NN) "__init__" = some (some (.ref fI)))
    (iI : PySem.W.isFn K (.ref fI) = true)
    (lI : K.lookup fI = some ⟨ocI, odI, .func (PySem.W.fnOf "__init__" "WebError.__init__" (defArgs sWE) (defBody sWE) (defScope sWE) .none kVI dcI pmI anI cdI ctI), slI⟩)
    (cI : PySem.W.codeIn K cdI "WebError.__init__" = true)
    (kI : PySem.W.keepIn K (.ref fI) = true)
    (tI : PySem.W.typeIn K (.ref fI) = some (.type "function"))
    (aINB : PySem.W.findIn K (.ref NB) "__init__" = some (some (.ref fI)))
    (hn : PySem.W.specialIn K (.builtin "object.__class__") "__get__" = some (some (.builtin "getset_descriptor.__get__")))
    (ht : PySem.W.takesIn K (.builtin "object.__class__") = some true)
    (vMOST_BARS : PySem.W.nsIn K mainGlobals "MOST_BARS" = some (some (.int 20 tMOST_BARS)))
    (vMOST_MOMENT : PySem.W.nsIn K mainGlobals "MOST_MOMENT" = some (some (.int 1000 tMOST_MOMENT)))
    (vMOST_APART : PySem.W.nsIn K mainGlobals "MOST_APART" = some (some (.int 2000 tMOST_APART)))
    (xLNB : K.lookup NB = some (excClassObj nmNB qNB NB NNB bsNB bmNB true snNB subNB abNB colNB ddNB m0NB m1NB m2NB m3NB m5NB "ValueError.__new__"))
    (xbNB : PySem.HandSPX.refsVE bmNB = true)
    (seNB : PySem.W.findIn K (.ref NB) "__setattr__" = some (some (.builtin "object.__setattr__")))
    (keNB : PySem.W.keepIn K (.ref NB) = true)
    (heNB : PySem.W.hasDictIn K NB = true)
    (gaNB : PySem.W.findIn K (.ref NB) "__getattribute__" = some (some (.builtin "BaseException.__getattribute__")))
    (ggNB : PySem.W.findIn K (.ref NB) "__getattr__" = some none)
    (hxNB : PySem.W.findIn K (.ref NB) "__class__" = some (some (.builtin "object.__class__")))
    (myNB : PySem.W.mroIn K NB (.type "object") = some true)
    (exNB : PySem.W.subIn K (.ref NB) (.type "BaseException") = some true)
    (ieNB : PySem.W.isClsIn K NB = true)
    (teNB : PySem.W.typeIn K (.ref NB) = some (.type "type"))
    (ssNB : PySem.W.subIn K (.ref NB) (.ref NB) = some true)
    (xLNN : K.lookup NN = some (excClassObj nmNN qNN NN NNN bsNN bmNN true snNN subNN abNN colNN ddNN m0NN m1NN m2NN m3NN m5NN "ValueError.__new__"))
    (xbNN : PySem.HandSPX.refsVE bmNN = true)
    (seNN : PySem.W.findIn K (.ref NN) "__setattr__" = some (some (.builtin "object.__setattr__")))
    (keNN : PySem.W.keepIn K (.ref NN) = true)
    (heNN : PySem.W.hasDictIn K NN = true)
    (gaNN : PySem.W.findIn K (.ref NN) "__getattribute__" = some (some (.builtin "BaseException.__getattribute__")))
    (ggNN : PySem.W.findIn K (.ref NN) "__getattr__" = some none)
    (hxNN : PySem.W.findIn K (.ref NN) "__class__" = some (some (.builtin "object.__class__")))
    (myNN : PySem.W.mroIn K NN (.type "object") = some true)
    (exNN : PySem.W.subIn K (.ref NN) (.type "BaseException") = some true)
    (ieNN : PySem.W.isClsIn K NN = true)
    (teNN : PySem.W.typeIn K (.ref NN) = some (.type "type"))
    (ssNN : PySem.W.subIn K (.ref NN) (.ref NN) = some true)
    (zlen : PySem.W.nsIn K mainGlobals "len" = some none)
    (zint : PySem.W.nsIn K mainGlobals "int" = some none)
    (zbool : PySem.W.nsIn K mainGlobals "bool" = some none)
    (zisinstance : PySem.W.nsIn K mainGlobals "isinstance" = some none)
    (ztuple : PySem.W.nsIn K mainGlobals "tuple" = some none)
    (zall : PySem.W.nsIn K mainGlobals "all" = some none)
    (zenumerate : PySem.W.nsIn K mainGlobals "enumerate" = some none)
    (zlist : PySem.W.nsIn K mainGlobals "list" = some none)
    (zrange : PySem.W.nsIn K mainGlobals "range" = some none)
    (zmin : PySem.W.nsIn K mainGlobals "min" = some none)
    (zmax : PySem.W.nsIn K mainGlobals "max" = some none)
    (zsorted : PySem.W.nsIn K mainGlobals "sorted" = some none)
    (zset : PySem.W.nsIn K mainGlobals "set" = some none)
    (zstr : PySem.W.nsIn K mainGlobals "str" = some none)
    (zabs : PySem.W.nsIn K mainGlobals "abs" = some none)
    (zValueError : PySem.W.nsIn K mainGlobals "ValueError" = some none) :
    ∃ fd : FuncData, (∀ (s : Shared) (v : Value), BindsTo s fd ⟨[v], []⟩ [("_law_script", v)]) ∧ ∀ base : Heap, K.In base → base.Ns mainGlobals mg → FnOk l.prog w K mg base CX0 26 fa fd ["_law_script"] (spLaw K) := by
  have e := hfa.symm.trans (PySem.W.mg_of X G a42)
  cases e
  have F1 := fun_mk (st := sInteger) l1 c1 k1
  have b1 := F1.binds (ps := ["thing"]) fun _ _ _ _ _ _ us hl => match us, hl with | [_], _ => rfl
  have F2 := fun_mk (st := sNumber) l2 c2 k2
  have b2 := F2.binds (ps := ["most", "thing"]) fun _ _ _ _ _ _ us hl => match us, hl with | [_, _], _ => rfl
  have F11 := fun_mk (st := sMoment) l11 c11 k11
  have b11 := F11.binds (ps := ["thing"]) fun _ _ _ _ _ _ us hl => match us, hl with | [_], _ => rfl
  have F12 := fun_mk (st := sIsBar) l12 c12 k12
  have b12 := F12.binds (ps := ["thing"]) fun _ _ _ _ _ _ us hl => match us, hl with | [_], _ => rfl
  have F13 := fun_mk (st := sDemB) l13 c13 k13
  have b13 := F13.binds (ps := ["thing"]) fun _ _ _ _ _ _ us hl => match us, hl with | [_], _ => rfl
  have F14 := fun_mk (st := sDem2) l14 c14 k14
  have b14 := F14.binds (ps := ["one", "other", "e"]) fun _ _ _ _ _ _ us hl => match us, hl with | [_, _, _], _ => rfl
  have F15 := fun_mk (st := sFit) l15 c15 k15
  have b15 := F15.binds (ps := ["bar", "other", "e"]) fun _ _ _ _ _ _ us hl => match us, hl with | [_, _, _], _ => rfl
  have F16 := fun_mk (st := sShort) l16 c16 k16
  have b16 := F16.binds (ps := ["bar", "e"]) fun _ _ _ _ _ _ us hl => match us, hl with | [_, _], _ => rfl
  have F17 := fun_mk (st := sLong) l17 c17 k17
  have b17 := F17.binds (ps := ["bars", "e"]) fun _ _ _ _ _ _ us hl => match us, hl with | [_, _], _ => rfl
  have F18 := fun_mk (st := sFitting) l18 c18 k18
  have b18 := F18.binds (ps := ["bars", "others", "e"]) fun _ _ _ _ _ _ us hl => match us, hl with | [_, _, _], _ => rfl
  have F19 := fun_mk (st := sShift) l19 c19 k19
  have b19 := F19.binds (ps := ["came", "taken", "holders", "number"]) fun _ _ _ _ _ _ us hl => match us, hl with | [_, _, _, _], _ => rfl
  have F20 := fun_mk (st := sPlace) l20 c20 k20
  have b20 := F20.binds (ps := ["start", "longs", "fits", "taken", "holders"]) fun _ _ _ _ _ _ us hl => match us, hl with | [_, _, _, _, _], _ => rfl
  have F21 := fun_mk (st := sAll) l21 c21 k21
  have b21 := F21.binds (ps := ["longs", "fits", "taken", "holders"]) fun _ _ _ _ _ _ us hl => match us, hl with | [_, _, _, _], _ => rfl
  have F22 := fun_mk (st := sPob) l22 c22 k22
  have b22 := F22.binds (ps := ["one", "other", "e"]) fun _ _ _ _ _ _ us hl => match us, hl with | [_, _, _], _ => rfl
  have F23 := fun_mk (st := sPairing) l23 c23 k23
  have b23 := F23.binds (ps := ["one", "other", "e"]) fun _ _ _ _ _ _ us hl => match us, hl with | [_, _, _], _ => rfl
  have F24 := fun_mk (st := sBan) l24 c24 k24
  have b24 := F24.binds (ps := ["one", "other", "e"]) fun _ _ _ _ _ _ us hl => match us, hl with | [_, _, _], _ => rfl
  have F25 := fun_mk (st := sNearest) l25 c25 k25
  have b25 := F25.binds (ps := ["one", "other"]) fun _ _ _ _ _ _ us hl => match us, hl with | [_, _], _ => rfl
  have F27 := fun_mk (st := sBag) l27 c27 k27
  have b27 := F27.binds (ps := ["_law_script"]) fun _ _ _ _ _ _ us hl => match us, hl with | [_], _ => rfl
  have F28 := fun_mk (st := sPick) l28 c28 k28
  have b28 := F28.binds (ps := ["_law_bag_here", "_law_many"]) fun _ _ _ _ _ _ us hl => match us, hl with | [_, _], _ => rfl
  have F29 := fun_mk (st := sSome) l29 c29 k29
  have b29 := F29.binds (ps := ["_law_bag_here", "_law_things"]) fun _ _ _ _ _ _ us hl => match us, hl with | [_, _], _ => rfl
  have F30 := fun_mk (st := sFits) l30 c30 k30
  have b30 := F30.binds (ps := ["_law_bar", "_law_other", "_law_e"]) fun _ _ _ _ _ _ us hl => match us, hl with | [_, _, _], _ => rfl
  have F31 := fun_mk (st := sIsLong) l31 c31 k31
  have b31 := F31.binds (ps := ["_law_bar", "_law_e"]) fun _ _ _ _ _ _ us hl => match us, hl with | [_, _], _ => rfl
  have F32 := fun_mk (st := sPaired) l32 c32 k32
  have b32 := F32.binds (ps := ["_law_one", "_law_other", "_law_e", "_law_used", "_law_at"]) fun _ _ _ _ _ _ us hl => match us, hl with | [_, _, _, _, _], _ => rfl
  have F33 := fun_mk (st := sFound) l33 c33 k33
  have b33 := F33.binds (ps := ["_law_at", "_law_edges", "_law_taken", "_law_seen"]) fun _ _ _ _ _ _ us hl => match us, hl with | [_, _, _, _], _ => rfl
  have F34 := fun_mk (st := sAllF) l34 c34 k34
  have b34 := F34.binds (ps := ["_law_one", "_law_other", "_law_e"]) fun _ _ _ _ _ _ us hl => match us, hl with | [_, _, _], _ => rfl
  have F35 := fun_mk (st := sThere) l35 c35 k35
  have b35 := F35.binds (ps := ["_law_one", "_law_other", "_law_e"]) fun _ _ _ _ _ _ us hl => match us, hl with | [_, _, _], _ => rfl
  have F36 := fun_mk (st := sLBar) l36 c36 k36
  have b36 := F36.binds (ps := ["_law_bag_here", "_law_wide"]) fun _ _ _ _ _ _ us hl => match us, hl with | [_, _], _ => rfl
  have F37 := fun_mk (st := sMoved) l37 c37 k37
  have b37 := F37.binds (ps := ["_law_bag_here", "_law_bar_here", "_law_wide"]) fun _ _ _ _ _ _ us hl => match us, hl with | [_, _, _], _ => rfl
  have F38 := fun_mk (st := sLists) l38 c38 k38
  have b38 := F38.binds (ps := ["_law_bag_here", "_law_wide", "_law_most"]) fun _ _ _ _ _ _ us hl => match us, hl with | [_, _, _], _ => rfl
  have F39 := fun_mk (st := sSteps) l39 c39 k39
  have b39 := F39.binds (ps := ["_law_one", "_law_other"]) fun _ _ _ _ _ _ us hl => match us, hl with | [_, _], _ => rfl
  have F40 := fun_mk (st := sDue) l40 c40 k40
  have b40 := F40.binds (ps := ["_law_one", "_law_other"]) fun _ _ _ _ _ _ us hl => match us, hl with | [_, _], _ => rfl
  have F41 := fun_mk (st := sShuf) l41 c41 k41
  have b41 := F41.binds (ps := ["_law_bag_here", "_law_things"]) fun _ _ _ _ _ _ us hl => match us, hl with | [_, _], _ => rfl
  have F42 := fun_mk (st := sLaw) l42 c42 k42
  have b42 := F42.binds (ps := ["_law_script"]) fun _ _ _ _ _ _ us hl => match us, hl with | [_], _ => rfl
  have FI := fun_mk (st := sWE) lI cI kI
  have bI := FI.binds (ps := ["self"]) fun _ _ _ _ _ _ us hl => match us, hl with | [_], _ => rfl
  have nn : ∀ {x : Str}, PySem.W.nsIn K mainGlobals x = some none → mg x = none := fun z => PySem.W.mg_none_of X G z
  have T : Gb mg := ⟨nn zlen, nn zint, nn zbool, nn zisinstance, nn ztuple, nn zall, nn zenumerate, nn zlist, nn zrange, nn zmin, nn zmax, nn zsorted, nn zset, nn zstr, nn zabs, nn zValueError⟩
  have B : BarC mg := ⟨⟨tMOST_BARS, PySem.W.mg_of X G vMOST_BARS⟩, ⟨tMOST_MOMENT, PySem.W.mg_of X G vMOST_MOMENT⟩, ⟨tMOST_APART, PySem.W.mg_of X G vMOST_APART⟩⟩
  have EB : ErrC K mg "NoBars" NB fI := ⟨⟨⟨nmNB, qNB, NNB, bsNB, bmNB, snNB, subNB, abNB, colNB, ddNB, m0NB, m1NB, m2NB, m3NB, m5NB, xLNB, xbNB⟩, seNB, exNB, teNB, keNB⟩, aINB, tI, PySem.W.mg_of X G gNB, ⟨ieNB, gaNB, ggNB, exNB, hxNB, hn, ht, myNB⟩⟩
  have EN : ErrC K mg "NoNumber" NN fI := ⟨⟨⟨nmNN, qNN, NNN, bsNN, bmNN, snNN, subNN, abNN, colNN, ddNN, m0NN, m1NN, m2NN, m3NN, m5NN, xLNN, xbNN⟩, seNN, exNN, teNN, keNN⟩, aI, tI, PySem.W.mg_of X G gNN, ⟨ieNN, gaNN, ggNN, exNN, hxNN, hn, ht, myNN⟩⟩
  refine ⟨PySem.W.fnOf "law" "law" (defArgs sLaw) (defBody sLaw) (defScope sLaw) .none kV42 dc42 pm42 an42 cd42 ct42, fun s v => .of_eq rfl, fun base _ _ => ?_⟩
  have cInt : Cal l.prog w K mg base 1 "is_integer" (spInteger K) [] := ⟨⟨f1, _, _, [], ok_integer F1 T, PySem.W.mg_of X G a1, k1, b1, .nil⟩⟩
  have cNum : Cal l.prog w K mg base 2 "is_number" (spNumber K) [] := ⟨⟨f2, _, _, [], ok_number F2 cInt, PySem.W.mg_of X G a2, k2, b2, .nil⟩⟩
  have cMom : Cal l.prog w K mg base 2 "is_moment" (spMoment K) [] := ⟨⟨f11, _, _, [], ok_moment F11 B cInt, PySem.W.mg_of X G a11, k11, b11, .nil⟩⟩
  have cBar : Cal l.prog w K mg base 3 "is_bar" (spIsBar K) [] := ⟨⟨f12, _, _, [], ok_isBar F12 T cMom, PySem.W.mg_of X G a12, k12, b12, .nil⟩⟩
  have cFit : Cal l.prog w K mg base 1 "fit" spFit [] := ⟨⟨f15, _, _, [], ok_fit F15 T, PySem.W.mg_of X G a15, k15, b15, .nil⟩⟩
  have cSho : Cal l.prog w K mg base 1 "is_short" spShort [] := ⟨⟨f16, _, _, [], ok_short F16, PySem.W.mg_of X G a16, k16, b16, .nil⟩⟩
  have cLon : Cal l.prog w K mg base 2 "long_numbers" spLong [] := ⟨⟨f17, _, _, [], ok_long F17 T cSho, PySem.W.mg_of X G a17, k17, b17, .nil⟩⟩
  have cFtg : Cal l.prog w K mg base 2 "fitting" spFitting [] := ⟨⟨f18, _, _, [], ok_fitting F18 T cFit, PySem.W.mg_of X G a18, k18, b18, .nil⟩⟩
  have cShi : Cal l.prog w K mg base 1 "shift" spShift [] := ⟨⟨f19, _, _, [], ok_shift F19, PySem.W.mg_of X G a19, k19, b19, .nil⟩⟩
  have cPla : Cal l.prog w K mg base 2 "place_bar" spPlace [] := ⟨⟨f20, _, _, [], ok_place F20 T cShi, PySem.W.mg_of X G a20, k20, b20, .nil⟩⟩
  have cAll : Cal l.prog w K mg base 3 "place_all" spAll [] := ⟨⟨f21, _, _, [], ok_all F21 cPla, PySem.W.mg_of X G a21, k21, b21, .nil⟩⟩
  have cPob : Cal l.prog w K mg base 4 "paired_or_banned" spPob [] := ⟨⟨f22, _, _, [], ok_pob F22 T cAll cLon cFtg, PySem.W.mg_of X G a22, k22, b22, .nil⟩⟩
  have GI : FnOk l.prog w K mg base CX0 1 fI _ ["self"] spF0 := ok_we FI
  have HD1 : FnOk l.prog w K mg base (L2.CX l.prog w) 4 f13 _ ["thing"] (spDemB NB) := ok_demB F13 T B EB GI bI cBar
  have HD2 : FnOk l.prog w K mg base (L2.CX l.prog w) 5 f14 _ ["one", "other", "e"] (spDem2 K NB NN) := ok_dem2 F14 B EN GI bI HD1 (PySem.W.mg_of X G a13) k13 b13 cNum
  have HP : FnOk l.prog w K mg base (L2.CX l.prog w) 6 f23 _ ["one", "other", "e"] (spTold 0) := ok_pairing F23 HD2 (PySem.W.mg_of X G a14) k14 b14 cPob
  have HB : FnOk l.prog w K mg base (L2.CX l.prog w) 6 f24 _ ["one", "other", "e"] (spTold 1) := ok_ban F24 HD2 (PySem.W.mg_of X G a14) k14 b14 cPob
  have HN : FnOk l.prog w K mg base (L2.CX l.prog w) 6 f25 _ ["one", "other"] spNear := ok_nearest F25 B HD1 (PySem.W.mg_of X G a13) k13 b13 cPob
  have cP : Cal l.prog w K mg base 6 "pairing" (spTold 0) [] := ⟨⟨f23, _, _, [], quiet HP (fun _ _ _ _ _ h => h), PySem.W.mg_of X G a23, k23, b23, .nil⟩⟩
  have cBn : Cal l.prog w K mg base 6 "ban" (spTold 1) [] := ⟨⟨f24, _, _, [], quiet HB (fun _ _ _ _ _ h => h), PySem.W.mg_of X G a24, k24, b24, .nil⟩⟩
  have cNe : Cal l.prog w K mg base 6 "nearest" spNear [] := ⟨⟨f25, _, _, [], quiet HN (fun _ _ _ _ _ h => h), PySem.W.mg_of X G a25, k25, b25, .nil⟩⟩
  have cBag : Cal l.prog w K mg base 1 "_law_bag" (spBag K) [] := ⟨⟨f27, _, _, [], ok_bag F27 T, PySem.W.mg_of X G a27, k27, b27, .nil⟩⟩
  have cPick : Cal l.prog w K mg base 1 "_law_pick" spPick [] := ⟨⟨f28, _, _, [], ok_pick F28 ⟨T.len, T.int⟩, PySem.W.mg_of X G a28, k28, b28, .nil⟩⟩
  have cSome : Cal l.prog w K mg base 2 "_law_some" spSome [] := ⟨⟨f29, _, _, [], ok_some F29 ⟨T.len, T.int⟩ cPick, PySem.W.mg_of X G a29, k29, b29, .nil⟩⟩
  have cLF : Cal l.prog w K mg base 1 "_law_fits" spFit [] := ⟨⟨f30, _, _, [], ok_fits F30 T, PySem.W.mg_of X G a30, k30, b30, .nil⟩⟩
  have cIL : Cal l.prog w K mg base 1 "_law_is_long" spIsLong [] := ⟨⟨f31, _, _, [], ok_isLong F31, PySem.W.mg_of X G a31, k31, b31, .nil⟩⟩
  have cPd : Cal l.prog w K mg base 8 "_law_paired" (spPaired 6) [] := ⟨⟨f32, _, _, [], ok_paired F32 T (PySem.W.mg_of X G a32) k32 b32 cLF cIL 6, PySem.W.mg_of X G a32, k32, b32, .nil⟩⟩
  have cFo : Cal l.prog w K mg base 22 "_law_found_for" (spFound 21) [] := ⟨⟨f33, _, _, [], ok_found F33 (PySem.W.mg_of X G a33) k33 b33 21, PySem.W.mg_of X G a33, k33, b33, .nil⟩⟩
  have cAF : Cal l.prog w K mg base 23 "_law_all_found" spAllF [] := ⟨⟨f34, _, _, [], ok_allF F34 T cLF cIL cFo, PySem.W.mg_of X G a34, k34, b34, .nil⟩⟩
  have cTh : Cal l.prog w K mg base 24 "_law_is_there" spThere [] := ⟨⟨f35, _, _, [], ok_there F35 T cPd cAF, PySem.W.mg_of X G a35, k35, b35, .nil⟩⟩
  have cLB : Cal l.prog w K mg base 3 "_law_bar" spLBar [] := ⟨⟨f36, _, _, [], ok_lbar F36 T cPick cSome, PySem.W.mg_of X G a36, k36, b36, .nil⟩⟩
  have cMv : Cal l.prog w K mg base 2 "_law_moved" spMoved [] := ⟨⟨f37, _, _, [], ok_moved F37 T cPick, PySem.W.mg_of X G a37, k37, b37, .nil⟩⟩
  have cLs : Cal l.prog w K mg base 4 "_law_lists" spLists [] := ⟨⟨f38, _, _, [], ok_lists F38 T cPick cLB cMv, PySem.W.mg_of X G a38, k38, b38, .nil⟩⟩
  have cSt : Cal l.prog w K mg base 1 "_law_steps" spSteps [] := ⟨⟨f39, _, _, [], ok_steps F39 T, PySem.W.mg_of X G a39, k39, b39, .nil⟩⟩
  have cDu : Cal l.prog w K mg base 25 "_law_due" spDue [] := ⟨⟨f40, _, _, [], ok_due F40 T cSt cTh, PySem.W.mg_of X G a40, k40, b40, .nil⟩⟩
  have cShf : Cal l.prog w K mg base 2 "_law_shuffled" spShuf [] := ⟨⟨f41, _, _, [], ok_shuf F41 T cPick, PySem.W.mg_of X G a41, k41, b41, .nil⟩⟩
  exact ok_law F42 T cBag cPick cSome cLs cP cBn cNe cDu cShf
theorem walk {l : PySem.W.OpenLaw} {q : Program} {loose : List Str} {XP : (Str → Option Value) → Heap → Prop} {YP : World → Heap → Prop} {d : DefRec} {K : Params → PySem.W.Frag} (hn : l.most = some 63) (hdf : d.params.defaults = [])
    (hY : ∀ (w : World) (h : Heap), YP w h → (K w.params).In h)
    (F : ∀ (w : World) (mg : Str → Option Value) (fa : Addr) (h : Heap), (K w.params).In h → h.Ns mainGlobals mg → mg d.name = some (.ref fa) →
      ∃ fd : FuncData, (∀ (s : Shared) (u : Value), BindsTo s fd ⟨[u], []⟩ [("_law_script", u)]) ∧ ∀ base : Heap, (K w.params).In base → base.Ns mainGlobals mg → FnOk l.prog w (K w.params) mg base CX0 26 fa fd ["_law_script"] (spLaw (K w.params))) :
    PySem.W.WalkO q loose XP YP l.row.toRowW d [] (fun f vs => PySem.call f vs) :=
  L2.walk_of (n := 63) (k := 26) (x := "_law_script") (CX := fun _ => CX0) (sp := fun w => spLaw (K w.params)) hn (by decide) hdf ⟨rfl, by decide, by decide⟩ hY F (fun _ _ a ns hl _ hS => ⟨a, ns, rfl, hS, hl, fun _ => rfl⟩) fun _ _ _ _ _ z => z
end E47.J

set_option Elab.async false
set_option linter.all false
open PySem PySem.W PyProof.Rows
set_option maxRecDepth 100000 in
set_option maxHeartbeats 0 in
theorem PySem.Challenge.cw_mapwebs_k47_whole_nearest_holds : PySem.Challenge.rw_mapwebs_k47_whole_nearest.Holds := by
  w_on; o_law; k_head; (case hw => w_witness2)
  k_fill
  refine E47.J.walk (l := PySem.Challenge.rw_mapwebs_k47_whole_nearest) rfl rfl (fun w h Y => PySem.W.kIn_of Y) ?F
  case F =>
    intro w mg fa h KX G hmg
    refine' E47.J.all_mk KX G hmg ?gNB ?gNN ?a1 ?l1 ?c1 ?k1 ?a2 ?l2 ?c2 ?k2 ?a11 ?l11 ?c11 ?k11 ?a12 ?l12 ?c12 ?k12 ?a13 ?l13 ?c13 ?k13 ?a14 ?l14 ?c14 ?k14 ?a15 ?l15 ?c15 ?k15 ?a16 ?l16 ?c16 ?k16 ?a17 ?l17 ?c17 ?k17 ?a18 ?l18 ?c18 ?k18 ?a19 ?l19 ?c19 ?k19 ?a20 ?l20 ?c20 ?k20 ?a21 ?l21 ?c21 ?k21 ?a22 ?l22 ?c22 ?k22 ?a23 ?l23 ?c23 ?k23 ?a24 ?l24 ?c24 ?k24 ?a25 ?l25 ?c25 ?k25 ?a27 ?l27 ?c27 ?k27 ?a28 ?l28 ?c28 ?k28 ?a29 ?l29 ?c29 ?k29 ?a30 ?l30 ?c30 ?k30 ?a31 ?l31 ?c31 ?k31 ?a32 ?l32 ?c32 ?k32 ?a33 ?l33 ?c33 ?k33 ?a34 ?l34 ?c34 ?k34 ?a35 ?l35 ?c35 ?k35 ?a36 ?l36 ?c36 ?k36 ?a37 ?l37 ?c37 ?k37 ?a38 ?l38 ?c38 ?k38 ?a39 ?l39 ?c39 ?k39 ?a40 ?l40 ?c40 ?k40 ?a41 ?l41 ?c41 ?k41 ?a42 ?l42 ?c42 ?k42 ?aI ?iI ?lI ?cI ?kI ?tI ?aINB ?hn ?ht ?vMOST_BARS ?vMOST_MOMENT ?vMOST_APART ?xLNB ?xbNB ?seNB ?keNB ?heNB ?gaNB ?ggNB ?hxNB ?myNB ?exNB ?ieNB ?teNB ?ssNB ?xLNN ?xbNN ?seNN ?keNN ?heNN ?gaNN ?ggNN ?hxNN ?myNN ?exNN ?ieNN ?teNN ?ssNN ?zlen ?zint ?zbool ?zisinstance ?ztuple ?zall ?zenumerate ?zlist ?zrange ?zmin ?zmax ?zsorted ?zset ?zstr ?zabs ?zValueError
    (case gNB => k_is)
    (case gNN => k_is)
    (case a1 => k_is)
    (case l1 => k_is)
    (case c1 => k_is)
    (case k1 => k_is)
    (case a2 => k_is)
    (case l2 => k_is)
    (case c2 => k_is)
    (case k2 => k_is)
    (case a11 => k_is)
    (case l11 => k_is)
    (case c11 => k_is)
    (case k11 => k_is)
    (case a12 => k_is)
    (case l12 => k_is)
    (case c12 => k_is)
    (case k12 => k_is)
    (case a13 => k_is)
    (case l13 => k_is)
    (case c13 => k_is)
    (case k13 => k_is)
    (case a14 => k_is)
    (case l14 => k_is)
    (case c14 => k_is)
    (case k14 => k_is)
    (case a15 => k_is)
    (case l15 => k_is)
    (case c15 => k_is)
    (case k15 => k_is)
    (case a16 => k_is)
    (case l16 => k_is)
    (case c16 => k_is)
    (case k16 => k_is)
    (case a17 => k_is)
    (case l17 => k_is)
    (case c17 => k_is)
    (case k17 => k_is)
    (case a18 => k_is)
    (case l18 => k_is)
    (case c18 => k_is)
    (case k18 => k_is)
    (case a19 => k_is)
    (case l19 => k_is)
    (case c19 => k_is)
    (case k19 => k_is)
    (case a20 => k_is)
    (case l20 => k_is)
    (case c20 => k_is)
    (case k20 => k_is)
    (case a21 => k_is)
    (case l21 => k_is)
    (case c21 => k_is)
    (case k21 => k_is)
    (case a22 => k_is)
    (case l22 => k_is)
    (case c22 => k_is)
    (case k22 => k_is)
    (case a23 => k_is)
    (case l23 => k_is)
    (case c23 => k_is)
    (case k23 => k_is)
    (case a24 => k_is)
    (case l24 => k_is)
    (case c24 => k_is)
    (case k24 => k_is)
    (case a25 => k_is)
    (case l25 => k_is)
    (case c25 => k_is)
    (case k25 => k_is)
    (case a27 => k_is)
    (case l27 => k_is)
    (case c27 => k_is)
    (case k27 => k_is)
    (case a28 => k_is)
    (case l28 => k_is)
    (case c28 => k_is)
    (case k28 => k_is)
    (case a29 => k_is)
    (case l29 => k_is)
    (case c29 => k_is)
    (case k29 => k_is)
    (case a30 => k_is)
    (case l30 => k_is)
    (case c30 => k_is)
    (case k30 => k_is)
    (case a31 => k_is)
    (case l31 => k_is)
    (case c31 => k_is)
    (case k31 => k_is)
    (case a32 => k_is)
    (case l32 => k_is)
    (case c32 => k_is)
    (case k32 => k_is)
    (case a33 => k_is)
    (case l33 => k_is)
    (case c33 => k_is)
    (case k33 => k_is)
    (case a34 => k_is)
    (case l34 => k_is)
    (case c34 => k_is)
    (case k34 => k_is)
    (case a35 => k_is)
    (case l35 => k_is)
    (case c35 => k_is)
    (case k35 => k_is)
    (case a36 => k_is)
    (case l36 => k_is)
    (case c36 => k_is)
    (case k36 => k_is)
    (case a37 => k_is)
    (case l37 => k_is)
    (case c37 => k_is)
    (case k37 => k_is)
    (case a38 => k_is)
    (case l38 => k_is)
    (case c38 => k_is)
    (case k38 => k_is)
    (case a39 => k_is)
    (case l39 => k_is)
    (case c39 => k_is)
    (case k39 => k_is)
    (case a40 => k_is)
    (case l40 => k_is)
    (case c40 => k_is)
    (case k40 => k_is)
    (case a41 => k_is)
    (case l41 => k_is)
    (case c41 => k_is)
    (case k41 => k_is)
    (case a42 => k_is)
    (case l42 => k_is)
    (case c42 => k_is)
    (case k42 => k_is)
    (case aI => k_is)
    (case iI => k_is)
    (case lI => k_is)
    (case cI => k_is)
    (case kI => k_is)
    (case tI => k_is)
    (case aINB => k_is)
    (case hn => k_is)
    (case ht => k_is)
    (case vMOST_BARS => k_is)
    (case vMOST_MOMENT => k_is)
    (case vMOST_APART => k_is)
    (case xLNB => k_is)
    (case xbNB => decide +kernel)
    (case seNB => k_is)
    (case keNB => k_is)
    (case heNB => k_is)
    (case gaNB => k_is)
    (case ggNB => k_is)
    (case hxNB => k_is)
    (case myNB => k_is)
    (case exNB => k_is)
    (case ieNB => k_is)
    (case teNB => k_is)
    (case ssNB => first | rfl | k_is)
    (case xLNN => k_is)
    (case xbNN => decide +kernel)
    (case seNN => k_is)
    (case keNN => k_is)
    (case heNN => k_is)
    (case gaNN => k_is)
    (case ggNN => k_is)
    (case hxNN => k_is)
    (case myNN => k_is)
    (case exNN => k_is)
    (case ieNN => k_is)
    (case teNN => k_is)
    (case ssNN => first | rfl | k_is)
    (case zlen => k_is)
    (case zint => k_is)
    (case zbool => k_is)
    (case zisinstance => k_is)
    (case ztuple => k_is)
    (case zall => k_is)
    (case zenumerate => k_is)
    (case zlist => k_is)
    (case zrange => k_is)
    (case zmin => k_is)
    (case zmax => k_is)
    (case zsorted => k_is)
    (case zset => k_is)
    (case zstr => k_is)
    (case zabs => k_is)
    (case zValueError => k_is)
