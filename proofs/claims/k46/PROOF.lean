import PyProof.Rows.All
import Wide.All
import OpenK.AllK
import Wide.FinOn
import HandS.ForMost
import HandS.Codes
import PySem.Challenge.RW_mapwebs_k46_whole_pairings_and_bans_judg
import HandS.IsInst
import HandS.OwnEq
import HandS.ForExc
import HandS.ExcInit
import HandS.ExcField
import HandS.ExcValue
import KE.KExcIs
import HandS.TupAny
import HandS.Zip
import HandS.Style
import HandS.TryMany
import PyProof.P3In
import HandS.Deep
import HandS.Walk
import HandS.DictComp
import HandS.More
import HandS.Sort
import HandS.Conv
set_option Elab.async false
set_option linter.all false
set_option maxRecDepth 100000
set_option maxHeartbeats 4000000
set_option pp.maxSteps 60
namespace B46
open PySem L2
def top (i : Nat) : Stmt := PySem.Challenge.pw_mapwebs_k46_whole_pairings_and_bans_judg.main.body.getD i (.Pass ⟨0, 0, 0, 0⟩)
abbrev sBag : Stmt := top 23
abbrev sPick : Stmt := top 24
abbrev sSome : Stmt := top 25
theorem upd_upd {H : Hp} {a : Addr} {o u : HO} : upd (upd H a o) a u = upd H a u := by
  funext b
  by_cases h : b = a
  · rw [h, upd_same, upd_same]
  · rw [upd_ne h, upd_ne h, upd_ne h]
/-- the bag stands at a, its great numbers at c -/
def BagAt (H : Hp) (a c : Addr) : Prop := ∃ (ns : List Int) (z m n : Int), H a = some (.lst [.ref c, .int z, .int m, .int n]) ∧ H c = some (.lst (ns.map V.int))
theorem BagAt.neq {H : Hp} {a c : Addr} (x : BagAt H a c) : c ≠ a := by
  obtain ⟨ns, z, m, n, h1, h2⟩ := x
  exact ne_of h2 h1 (by intro q; cases ns <;> cases q)
/-- a step that changes nothing but the bag, and makes new things -/
structure Go (a c : Addr) (H H' : Hp) : Prop where
  bag : BagAt H' a c
  keep : ∀ b o, b ≠ a → b ≠ c → H b = some o → H' b = some o
theorem Go.trans {a c : Addr} {H H1 H2 : Hp} (x : Go a c H H1) (y : Go a c H1 H2) : Go a c H H2 := ⟨y.1, fun b o n m e => y.2 b o n m (x.2 b o n m e)⟩
theorem Go.refl {a c : Addr} {H : Hp} (x : BagAt H a c) : Go a c H H := ⟨x, fun _ _ _ _ e => e⟩
theorem BagAt.ne {H : Hp} {a c : Addr} (x : BagAt H a c) {b : Addr} (h : H b = none) : b ≠ a ∧ b ≠ c := by
  obtain ⟨ns, z, m, n, h1, h2⟩ := x
  exact ⟨(ne_of_none h1 h).symm, (ne_of_none h2 h).symm⟩
theorem Go.of_ext {a c : Addr} {H H' : Hp} (x : BagAt H a c) (e : ∀ b o, H b = some o → H' b = some o) : Go a c H H' := by
  obtain ⟨ns, z, m, n, h1, h2⟩ := x
  exact ⟨⟨ns, z, m, n, e _ _ h1, e _ _ h2⟩, fun b o _ _ h => e b o h⟩
theorem Go.new {a c : Addr} {H : Hp} (x : BagAt H a c) {b : Addr} {o : HO} (h : H b = none) : Go a c H (upd H b o) := Go.of_ext x fun d u e => by rw [upd_ne (ne_of_none e h)]; exact e
/-- a store at a thing that is new since -/
theorem Go.put {a c d : Addr} {H H' : Hp} {o : HO} (p : BagAt H a c) (g : Go a c H H') (nd : H d = none) : Go a c H (upd H' d o) := by
  obtain ⟨h1, h2⟩ := p.ne nd
  obtain ⟨ns, z, m, n, h3, h4⟩ := g.1
  exact ⟨⟨ns, z, m, n, by rw [upd_ne h1.symm]; exact h3, by rw [upd_ne h2.symm]; exact h4⟩, fun b o' nb nc hb => by rw [upd_ne (ne_of_none hb nd)]; exact g.2 b o' nb nc hb⟩
theorem bag_no {H : Hp} {a c b : Addr} {o : HO} (p : BagAt H a c) (h : H b = some o) (no : ∀ xs, o ≠ .lst xs) : b ≠ a ∧ b ≠ c := by
  obtain ⟨ns, z, m, n, h1, h2⟩ := p
  refine ⟨fun e => ?_, fun e => ?_⟩
  · rw [e, h1] at h
    cases h
    exact no _ rfl
  · rw [e, h2] at h
    cases h
    exact no _ rfl
theorem Go.tup {a c b : Addr} {H H' : Hp} {xs : List V} (p : BagAt H a c) (g : Go a c H H') (h : H b = some (.tup xs)) : H' b = some (.tup xs) := g.2 _ _ (bag_no p h fun _ z => nomatch z).1 (bag_no p h fun _ z => nomatch z).2 h
def spBag (K : PySem.W.Frag) : Sp := fun vs H Q _ => ∃ (s : Addr) (ns : List Int), vs = [.ref s] ∧ SqL K H s (ns.map V.int) ∧ ns.length ≤ 63 ∧ ∀ (r c : Addr) (H' : Hp), (∀ b o, H b = some o → H' b = some o) → BagAt H' r c → Q (.ref r) H'
def spPick : Sp := fun vs H Q _ => ∃ (a c : Addr) (m : Int), vs = [.ref a, .int m] ∧ BagAt H a c ∧ 0 < m ∧ m < 1000000 ∧ ∀ (r : Int) (H' : Hp), 0 ≤ r → r < m → Go a c H H' → Q (.int r) H'
def spSome : Sp := fun vs H Q _ => ∃ (a c l : Addr) (xs : List V), vs = [.ref a, .ref l] ∧ BagAt H a c ∧ l ≠ a ∧ l ≠ c ∧ H l = some (.lst xs) ∧ xs ≠ [] ∧ xs.length ≤ 1000 ∧ ∀ (x : V) (H' : Hp), x ∈ xs → Go a c H H' → Q x H'
structure Bl (mg : Str → Option Value) : Prop where
  len : mg "len" = none
  int : mg "int" = none
theorem tyes_in {σ : L2.St} {H : Hp} {te : TE} {R : V → Hp → Prop} {N : Hp → Prop} (h : te σ H R) : tYes σ H (fun b H3 => if b = true then te σ H3 R else N H3) := by
  show (if true = true then te σ H R else N H)
  rw [if_pos rfl]
  exact h
section
variable {P : Program} {w : World} {K : PySem.W.Frag} {mg : Str → Option Value} {base : Heap}
theorem scPick : FnScope ["_law_bag_here", "_law_many", "_law_number"] ["_law_bag_here", "_law_many"] (defScope sPick) := ⟨rfl, rfl, rfl, by decide +kernel, rfl, by decide +kernel, by decide +kernel⟩
theorem seq0 {n : Nat} (h : 0 < n) : seqIndex? 0 n = some 0 := by
  unfold seqIndex?
  simp only [show ¬ ((0 : Int) < 0) by decide, if_false]
  rw [if_pos (by simp; omega)]
  rfl
theorem ix0 {n : Nat} (h : 0 < n) : ixN n 0 = some 0 := by
  unfold ixN
  rw [if_pos (by decide), if_pos (by omega)]
  rfl
theorem ok_pick {f : Addr} {fd : FuncData} (F : Fun K "_law_pick" "_law_pick" sPick f fd) (T : Bl mg) : FnOk P w K mg base CX0 1 f fd ["_law_bag_here", "_law_many"] spPick := by
  refine F.ok scPick (fun vs H Q E h => ?_) (fun cdv A outer s H vs Q E hr h => ?_)
  · obtain ⟨a, c, m, rfl, _⟩ := h
    rfl
  · obtain ⟨a, c, m, rfl, bag, hm, hm2, k⟩ := h
    obtain ⟨ns, z, ln, n, h1, h2⟩ := id bag
    have hca := bag.neq
    refine ⟨_, pss_cons (ps_if (pt_cmpR op_eq (pe_ix ix_list (pv 0) pe_int (fun _ _ => rfl)) pe_int (nomark _)) (pss_one (ps_ret pe_int)) pss_nil)
      (pss_cons (ps_if (pt_cmpR op_gt (pe_callB call_len_seq (by rfl) T.len PySem.boot_len (pa_cons (pe_ix ix_list (pv 0) pe_int (fun _ _ => rfl)) pa_nil)) pe_int (nomark _))
        (pss_cons (ps_set (i := 2) scPick.nd rfl (Or.inl rfl) (pe_ix ix_list (pe_ix ix_list (pv 0) pe_int (fun _ _ => rfl)) pe_int (fun _ _ => rfl)))
        (pss_cons (ps_asg (pe_op op_fdiv (pv 2) (pv 1)) (pg_sub (pe_ix ix_list (pv 0) pe_int (fun _ _ => rfl)) pe_int set_list))
        (pss_cons (ps_if (pt_cmpR op_lt (pv 2) (pv 1) (nomark _)) (pss_one (ps_expr (pe_bm PySem.F.plainAttrs_list PySem.F.slot_list_pop PySem.F.type_list_pop mt_popAt (pe_ix ix_list (pv 0) pe_int (fun _ _ => rfl)) (pa_cons pe_int pa_nil)))) pss_nil)
        (pss_one (ps_ret (pe_op op_mod (pe_callTy call_int1 (by rfl) T.int (by decide +kernel) (pa_cons (pv 2) pa_nil)) (pv 1))))))) pss_nil)
      (pss_cons (ps_asg (pe_op op_add (pe_ix ix_list (pv 0) pe_int (fun _ _ => rfl)) pe_int) (pg_sub (pv 0) pe_int set_list))
      (pss_cons (ps_set (i := 2) scPick.nd rfl (Or.inl rfl) (pe_op op_mod (pe_callTy call_int1 (by rfl) T.int (by decide +kernel) (pa_cons (pe_op op_add (pe_op op_mul (pe_op op_add (pe_ix ix_list (pv 0) pe_int (fun _ _ => rfl)) (pe_op op_mul pe_int (pe_ix ix_list (pv 0) pe_int (fun _ _ => rfl)))) pe_int) pe_int) pa_nil)) pe_int))
      (pss_cons (ps_set (i := 2) scPick.nd rfl (Or.inl rfl) (pe_op op_mod (pe_callTy call_int1 (by rfl) T.int (by decide +kernel) (pa_cons (pe_op op_add (pe_op op_mul (pv 2) (pe_op op_add (pe_op op_fdiv (pv 2) pe_int) pe_int)) (pe_ix ix_list (pv 0) pe_int (fun _ _ => rfl))) pa_nil)) pe_int))
      (pss_cons (ps_asg (pe_op op_mod (pe_callTy call_int1 (by rfl) T.int (by decide +kernel) (pa_cons (pe_op op_add (pe_ix ix_list (pv 0) pe_int (fun _ _ => rfl)) (pv 2)) pa_nil)) pe_int) (pg_sub (pv 0) pe_int set_list))
      (pss_one (ps_ret (pe_op op_mod (pe_callTy call_int1 (by rfl) T.int (by decide +kernel) (pa_cons (pe_op op_fdiv (pv 2) pe_int) pa_nil)) (pv 1))))))))), ?_⟩
    refine ⟨_, rfl, _, _, _, _, rfl, rfl, SqL.of h1, rfl, rfl, _, rfl, ?_⟩
    refine ite2 (fun _ => k 0 H (by decide) hm (Go.refl bag)) (fun _ => ?_)
    refine ⟨_, rfl, _, _, _, _, rfl, rfl, SqL.of h1, rfl, c, _, rfl, .inl (SqL.of h2), _, _, rfl, rfl, _, rfl, ?_⟩
    refine ite2 (fun e => ?_) (fun _ => ?_)
    · have pos : 0 < ns.length := by
        have e' := of_decide_eq_true e
        rw [List.length_map] at e'
        omega
      match ns, pos with
      | x :: ns, _ =>
        refine ⟨_, rfl, _, _, _, _, rfl, rfl, SqL.of h1, rfl, c, _, 0, .int x, rfl, rfl, SqL.of h2, at_of (j := 0) rfl rfl, ?_⟩
        refine ⟨_, rfl, _, rfl, _, _, rfl, rfl, ⟨hm, by omega⟩, _, rfl, _, _, _, _, rfl, rfl, SqL.of h1, rfl, c, _, 0, 0, rfl, rfl, h2, ix0 (Nat.succ_pos _), ?_⟩
        have e1 : (List.map V.int (x :: ns)).set 0 (V.int (x / m)) = (x / m :: ns).map V.int := rfl
        have ha1 : (upd H c (.lst ((x / m :: ns).map V.int))) a = some (.lst [.ref c, .int z, .int ln, .int n]) := by rw [upd_ne hca.symm]; exact h1
        refine ⟨_, rfl, _, rfl, _, _, rfl, rfl, _, rfl, ?_⟩
        have fin : ∀ ys : List Int, Go a c H (upd H c (.lst (ys.map V.int))) := fun ys => ⟨⟨ys, z, ln, n, by rw [upd_ne hca.symm]; exact h1, upd_same⟩, fun b o _ nc hb => by rw [upd_ne nc]; exact hb⟩
        refine ite2 (fun _ => ?_) (fun _ => ?_)
        · refine ⟨_, rfl, _, _, _, _, rfl, rfl, SqL.of ha1, rfl, .inl ⟨rfl, _, SqL.of upd_same⟩, c, _, 0, 0, .int (x / m), rfl, rfl, upd_same, by decide, by decide, seq0 (Nat.succ_pos _), rfl, ?_⟩
          refine ⟨_, rfl, .inl ⟨_, rfl, _, rfl, _, _, rfl, rfl, hm, ?_⟩⟩
          rw [upd_upd]
          exact k _ _ (Int.emod_nonneg _ (by omega)) (Int.emod_lt_of_pos _ hm) (fin ns)
        · refine ⟨_, rfl, .inl ⟨_, rfl, _, rfl, _, _, rfl, rfl, hm, ?_⟩⟩
          exact k _ _ (Int.emod_nonneg _ (by omega)) (Int.emod_lt_of_pos _ hm) (fin (x / m :: ns))
    · have fin : ∀ z' n' : Int, Go a c H (upd H a (.lst [.ref c, .int z', .int ln, .int n'])) := fun z' n' => ⟨⟨ns, z', ln, n', upd_same, by rw [upd_ne hca]; exact h2⟩, fun b o na _ hb => by rw [upd_ne na]; exact hb⟩
      refine ⟨_, rfl, _, _, _, _, rfl, rfl, SqL.of h1, rfl, _, _, rfl, rfl, _, rfl, _, _, _, _, rfl, rfl, h1, rfl, ?_⟩
      refine ⟨_, rfl, _, _, _, _, rfl, rfl, SqL.of upd_same, rfl, _, rfl, _, _, _, _, rfl, rfl, SqL.of upd_same, rfl, _, _, rfl, rfl, .inl (by decide), _, _, rfl, rfl, _, _, rfl, rfl, .inr (by decide), _, _, rfl, rfl, .inl ⟨_, rfl, _, _, rfl, rfl, (by show (0 : Int) < 2147483647; decide), ?_⟩⟩
      have b1 := Int.emod_nonneg ((z + 7919 * (n + 1)) * 48271 + 11) (show (2147483647 : Int) ≠ 0 by decide)
      have b2 := Int.emod_lt_of_pos ((z + 7919 * (n + 1)) * 48271 + 11) (show (0 : Int) < 2147483647 by decide)
      refine ⟨_, rfl, _, rfl, _, _, rfl, rfl, ⟨by decide, by decide⟩, _, _, rfl, rfl, _, _, rfl, rfl, .inl ⟨by omega, by omega⟩, _, rfl, _, _, _, _, rfl, rfl, SqL.of upd_same, rfl, _, _, rfl, rfl, .inl ⟨_, rfl, _, _, rfl, rfl, (by show (0 : Int) < 2147483399; decide), ?_⟩⟩
      generalize ((z + 7919 * (n + 1)) * 48271 + 11) % 2147483647 = y1 at *
      refine ⟨_, rfl, _, _, _, _, rfl, rfl, SqL.of upd_same, rfl, _, rfl, _, _, rfl, rfl, .inl ⟨_, rfl, _, _, rfl, rfl, (by show (0 : Int) < 2147483629; decide), _, rfl, _, _, _, _, rfl, rfl, upd_same, rfl, ?_⟩⟩
      refine ⟨_, rfl, _, _, rfl, rfl, ⟨by decide, by decide⟩, .inl ⟨_, rfl, _, rfl, _, _, rfl, rfl, hm, ?_⟩⟩
      rw [upd_upd]
      exact k _ _ (Int.emod_nonneg _ (by omega)) (Int.emod_lt_of_pos _ hm) (fin _ _)
theorem scSome : FnScope ["_law_bag_here", "_law_things"] ["_law_bag_here", "_law_things"] (defScope sSome) := ⟨rfl, rfl, rfl, by decide +kernel, rfl, by decide +kernel, by decide +kernel⟩
theorem ok_some {f : Addr} {fd : FuncData} (F : Fun K "_law_some" "_law_some" sSome f fd) (T : Bl mg) (cD : C8.Cal P w K mg base 1 "_law_pick" spPick []) : FnOk P w K mg base CX0 2 f fd ["_law_bag_here", "_law_things"] spSome := by
  refine F.ok scSome (fun vs H Q E h => ?_) (fun cdv A outer s H vs Q E hr h => ?_)
  · obtain ⟨a, c, l, xs, rfl, _⟩ := h
    rfl
  · obtain ⟨a, c, l, xs, rfl, bag, na, nc, hl, ne, len, k⟩ := h
    refine ⟨_, pss_one (ps_ret (pe_ix ix_list (pv 1) (C8.pe_c cD hr (by decide) (by rfl) (pa_cons (pv 0) (pa_cons (pe_callB call_len_seq (by rfl) T.len PySem.boot_len (pa_cons (pv 1) pa_nil)) pa_nil))) (fun _ _ => rfl))), ?_⟩
    have pos : 0 < xs.length := List.length_pos_iff.mpr ne
    refine ⟨_, rfl, _, rfl, _, rfl, l, xs, rfl, .inl (SqL.of hl), a, c, _, rfl, bag, by omega, by omega, fun r H' h0 hlt go => ?_⟩
    have lt : r.toNat < xs.length := by omega
    refine ⟨l, xs, r, xs[r.toNat], rfl, rfl, SqL.of (go.2 _ _ na nc hl), at_of (j := r.toNat) (by omega) (List.getElem?_eq_getElem lt), ?_⟩
    exact k _ _ (List.getElem_mem lt) go
end
end B46

set_option Elab.async false
set_option linter.all false
set_option maxRecDepth 100000
set_option maxHeartbeats 4000000
set_option pp.maxSteps 60
namespace B46
open PySem L2
abbrev sInteger : Stmt := top 1
abbrev sNumber : Stmt := top 2
/-- built-ins that the text leaves as they are -/
structure Gb (mg : Str → Option Value) : Prop where
  len : mg "len" = none
  int : mg "int" = none
  bool : mg "bool" = none
  isi : mg "isinstance" = none
  tup : mg "tuple" = none
  all : mg "all" = none
  enum : mg "enumerate" = none
  list : mg "list" = none
  rng : mg "range" = none
  min : mg "min" = none
  max : mg "max" = none
  sorted : mg "sorted" = none
  set : mg "set" = none
  str : mg "str" = none
  abs : mg "abs" = none
  ve : mg "ValueError" = none
/-- what is expected of a caller of a plain def -/
abbrev Cal := @C8.Cal
def isI : V → Bool | .int _ => true | _ => false
def isB : V → Bool | .bl _ => true | _ => false
/-- a thing, as isinstance sees it; of a tuple also its items, n deep -/
def Th (K : PySem.W.Frag) (H : Hp) : Nat → V → Prop
  | n, x => ∃ t, TyX K H x t ∧ PySem.W.kitOne K t (.type "int") = some (isI x || isB x) ∧ PySem.W.kitOne K t (.type "bool") = some (isB x) ∧
    ((PySem.W.kitOne K t (.type "tuple") = some false ∧ ∀ a, x = .ref a → ∃ o, H a = some o ∧ ∀ xs, o ≠ .tup xs) ∨ (PySem.W.kitOne K t (.type "tuple") = some true ∧ ∃ a xs, x = .ref a ∧ H a = some (.tup xs) ∧
      match n with | 0 => True | m + 1 => ∀ y ∈ xs, Th K H m y))
theorem Th.zero {K : PySem.W.Frag} {H : Hp} {n : Nat} {x : V} (h : Th K H n x) : Th K H 0 x := by
  unfold Th at h ⊢
  obtain ⟨t, a, b, c, d⟩ := h
  refine ⟨t, a, b, c, ?_⟩
  rcases d with d | ⟨d, a, xs, e, f, _⟩
  · exact .inl d
  · exact .inr ⟨d, a, xs, e, f, True.intro⟩
def numV (m : Int) : V → Bool
  | .int i => decide (0 ≤ i) && decide (i ≤ m)
  | _ => false
theorem numV_true {m : Int} {x : V} : numV m x = true ↔ ∃ i, x = .int i ∧ 0 ≤ i ∧ i ≤ m := by
  cases x <;> simp [numV]
theorem TyOf.ext {K : PySem.W.Frag} {H H' : Hp} {x : V} {t : Value} (h : TyOf K H x t) (e : Ext H H') : TyOf K H' x t := by
  cases h with
  | non => exact .non
  | bl x => exact .bl x
  | int i => exact .int i
  | str x => exact .str x
  | flt x => exact .flt x
  | lst h => exact .lst (e _ _ h)
  | frz h => exact .frz (e _ _ h)
  | tup h => exact .tup (e _ _ h)
  | dK h => exact .dK (e _ _ h)
  | dT h => exact .dT (e _ _ h)
  | ins h c a b d f => exact .ins (e _ _ h) c a b d f
theorem TyX.ext {K : PySem.W.Frag} {H H' : Hp} {x : V} {t : Value} (h : TyX K H x t) (e : Ext H H') : TyX K H' x t := by
  cases h with
  | base h => exact .base (TyOf.ext h e)
  | byt b => exact .byt b
  | set h => exact .set (e _ _ h)
  | kList h c => exact .kList h c
  | kTuple h c => exact .kTuple h c
  | kDict h c => exact .kDict h c
  | fTuple h => exact .fTuple (e _ _ h)
  | fDict h => exact .fDict (e _ _ h)
theorem Th.ext {K : PySem.W.Frag} {H H' : Hp} (e : Ext H H') : ∀ {n : Nat} {x : V}, Th K H n x → Th K H' n x
  | 0, x, h => by
    unfold Th at h ⊢
    obtain ⟨t, a, b, c, d⟩ := h
    refine ⟨t, TyX.ext a e, b, c, ?_⟩
    rcases d with ⟨d, f⟩ | ⟨d, a, xs, g, f, _⟩
    · exact .inl ⟨d, fun a q => let ⟨o, h1, h2⟩ := f a q; ⟨o, e _ _ h1, h2⟩⟩
    · exact .inr ⟨d, a, xs, g, e _ _ f, True.intro⟩
  | n + 1, x, h => by
    unfold Th at h ⊢
    obtain ⟨t, a, b, c, d⟩ := h
    refine ⟨t, TyX.ext a e, b, c, ?_⟩
    rcases d with ⟨d, f⟩ | ⟨d, a, xs, g, f, i⟩
    · exact .inl ⟨d, fun a q => let ⟨o, h1, h2⟩ := f a q; ⟨o, e _ _ h1, h2⟩⟩
    · exact .inr ⟨d, a, xs, g, e _ _ f, fun y hy => Th.ext e (i y hy)⟩
def spInteger (K : PySem.W.Frag) : Sp := fun vs H Q _ => ∃ x : V, vs = [x] ∧ Th K H 0 x ∧ Q (.bl (isI x)) H
def spNumber (K : PySem.W.Frag) : Sp := fun vs H Q _ => ∃ (m : Int) (x : V), vs = [.int m, x] ∧ Th K H 0 x ∧ Q (.bl (numV m x)) H
section
variable {P : Program} {w : World} {K : PySem.W.Frag} {mg : Str → Option Value} {base : Heap}
theorem scInt : FnScope ["thing"] ["thing"] (defScope sInteger) := ⟨rfl, rfl, rfl, by decide +kernel, rfl, by decide +kernel, by decide +kernel⟩
theorem ok_integer {f : Addr} {fd : FuncData} (F : L2.Fun K "is_integer" "is_integer" sInteger f fd) (T : Gb mg) : FnOk P w K mg base CX0 1 f fd ["thing"] (spInteger K) := by
  refine F.ok scInt (fun vs H Q E h => ?_) (fun cdv A outer s H vs Q E hr h => ?_)
  · obtain ⟨x, rfl, _⟩ := h
    rfl
  · obtain ⟨x, rfl, th, k⟩ := h
    unfold Th at th
    obtain ⟨t, ty, ki, kb, _⟩ := th
    refine ⟨_, pss_one (ps_ret (pe_and (pe_callB call_isi (by rfl) T.isi (by decide +kernel) (pa_cons (pv 0) (pa_cons (pe_bltn (v := .ty "int") (by rfl) T.int (by decide +kernel) rfl) pa_nil)))
      (pe_one (pe_not (pe_callB call_isi (by rfl) T.isi (by decide +kernel) (pa_cons (pv 0) (pa_cons (pe_bltn (v := .ty "bool") (by rfl) T.bool (by decide +kernel) rfl) pa_nil))))))), ?_⟩
    refine ⟨_, rfl, x, .ty "int", t, .type "int", _, rfl, .ty _, ty, ki, _, rfl, ?_⟩
    cases x <;> first
      | exact iteF k
      | (refine iteT ⟨_, rfl, _, .ty "bool", t, .type "bool", _, rfl, .ty _, ty, kb, _, rfl, ?_⟩; exact k)
theorem scNum : FnScope ["most", "thing"] ["most", "thing"] (defScope sNumber) := ⟨rfl, rfl, rfl, by decide +kernel, rfl, by decide +kernel, by decide +kernel⟩
theorem ok_number {f : Addr} {fd : FuncData} (F : L2.Fun K "is_number" "is_number" sNumber f fd) (cI : Cal P w K mg base 1 "is_integer" (spInteger K) []) : FnOk P w K mg base CX0 2 f fd ["most", "thing"] (spNumber K) := by
  refine F.ok scNum (fun vs H Q E h => ?_) (fun cdv A outer s H vs Q E hr h => ?_)
  · obtain ⟨m, x, rfl, _⟩ := h
    rfl
  · obtain ⟨m, x, rfl, th, k⟩ := h
    refine ⟨_, pss_one (ps_ret (pe_and (C8.pe_c cI hr (by decide) (by rfl) (pa_cons (pv 1) pa_nil)) (pe_one (pe_chain op_le op_le pe_int (pv 1) (pv 0))))), ?_⟩
    refine ⟨_, rfl, x, rfl, th, _, rfl, ?_⟩
    cases x with
    | int i =>
      refine iteT ⟨_, rfl, _, _, rfl, rfl, _, rfl, ?_⟩
      by_cases h0 : (0 : Int) ≤ i
      · rw [decide_eq_true h0]
        refine iteT ⟨_, rfl, _, _, rfl, rfl, ?_⟩
        have e : numV m (.int i) = decide (i ≤ m) := by simp [numV, h0]
        rw [e] at k
        exact k
      · rw [decide_eq_false h0]
        have e : numV m (.int i) = false := by simp [numV, h0]
        rw [e] at k
        exact iteF k
    | _ => exact iteF k
end
end B46

set_option Elab.async false
set_option linter.all false
set_option maxRecDepth 100000
set_option maxHeartbeats 4000000
set_option pp.maxSteps 60
namespace B46
open PySem L2
/-- what is tracked but for the bag -/
def Off (a c : Addr) (H : Hp) : Hp := fun b => if b = a ∨ b = c then none else H b
theorem off_at {a c b : Addr} {H : Hp} {o : HO} (h : b ≠ a ∧ b ≠ c) (e : H b = some o) : Off a c H b = some o := by
  unfold Off
  rw [if_neg (fun z => z.elim h.1 h.2)]
  exact e
theorem off_some {a c b : Addr} {H : Hp} {o : HO} (h : Off a c H b = some o) : b ≠ a ∧ b ≠ c ∧ H b = some o := by
  unfold Off at h
  by_cases e : b = a ∨ b = c
  · rw [if_pos e] at h; cases h
  · rw [if_neg e] at h; exact ⟨fun z => e (.inl z), fun z => e (.inr z), h⟩
theorem Go.off {a c : Addr} {H H' : Hp} (g : Go a c H H') : Ext (Off a c H) (Off a c H') := fun b o h => by
  obtain ⟨n, m, e⟩ := off_some h
  exact off_at ⟨n, m⟩ (g.2 b o n m e)
theorem off_le {a c : Addr} {H : Hp} : Ext (Off a c H) H := fun b o h => (off_some h).2.2
theorem off_tup {a c q : Addr} {H : Hp} {xs : List V} (p : BagAt H a c) (h : H q = some (.tup xs)) : (Off a c H) q = some (.tup xs) := off_at (bag_no p h fun _ z => nomatch z) h
/-! ### kinds of things -/
section
variable {K : PySem.W.Frag} {S : Hp} {n : Nat}
theorem Th.plain {x : V} {t : Value} (ty : TyX K S x t) (h1 : PySem.W.kitOne K t (.type "int") = some (isI x || isB x)) (h2 : PySem.W.kitOne K t (.type "bool") = some (isB x)) (h3 : PySem.W.kitOne K t (.type "tuple") = some false)
    (h : ∀ a, x = .ref a → ∃ o, S a = some o ∧ ∀ xs, o ≠ .tup xs) : Th K S n x := by
  unfold Th
  exact ⟨t, ty, h1, h2, .inl ⟨h3, h⟩⟩
theorem Th.non : Th K S n .non := Th.plain (.base .non) (kit_ty (by decide +kernel)) (kit_ty (by decide +kernel)) (kit_ty (by decide +kernel)) fun _ h => nomatch h
theorem Th.bl (b : Bool) : Th K S n (.bl b) := Th.plain (.base (.bl b)) (kit_ty (show kitB "bool" "int" = some true by decide +kernel)) (kit_ty (show kitB "bool" "bool" = some true by decide +kernel)) (kit_ty (by decide +kernel)) fun _ h => nomatch h
theorem Th.int (i : Int) : Th K S n (.int i) := Th.plain (.base (.int i)) (kit_ty (show kitB "int" "int" = some true by decide +kernel)) (kit_ty (show kitB "int" "bool" = some false by decide +kernel)) (kit_ty (by decide +kernel)) fun _ h => nomatch h
theorem Th.str (z : Str) : Th K S n (.str z) := Th.plain (.base (.str z)) (kit_ty (show kitB "str" "int" = some false by decide +kernel)) (kit_ty (show kitB "str" "bool" = some false by decide +kernel)) (kit_ty (by decide +kernel)) fun _ h => nomatch h
theorem Th.lst {p : Addr} {xs : List V} (h : S p = some (.lst xs)) : Th K S n (.ref p) :=
  Th.plain (.base (.lst h)) (kit_ty (show kitB "list" "int" = some false by decide +kernel)) (kit_ty (show kitB "list" "bool" = some false by decide +kernel)) (kit_ty (by decide +kernel)) fun a e => by cases e; exact ⟨_, h, fun _ z => nomatch z⟩
theorem Th.dct {p : Addr} {kvs : List (Key × V)} (h : S p = some (.dK kvs)) : Th K S n (.ref p) :=
  Th.plain (.base (.dK h)) (kit_ty (show kitB "dict" "int" = some false by decide +kernel)) (kit_ty (show kitB "dict" "bool" = some false by decide +kernel)) (kit_ty (by decide +kernel)) fun a e => by cases e; exact ⟨_, h, fun _ z => nomatch z⟩
theorem Th.tup {p : Addr} {xs : List V} (h : S p = some (.tup xs)) (it : ∀ y ∈ xs, Th K S n y) : Th K S (n + 1) (.ref p) := by
  unfold Th
  exact ⟨_, .base (.tup h), kit_ty (show kitB "tuple" "int" = some false by decide +kernel), kit_ty (show kitB "tuple" "bool" = some false by decide +kernel), .inr ⟨kit_ty (by decide +kernel), p, xs, rfl, h, it⟩⟩
end
theorem Th.tup0 {K : PySem.W.Frag} {S : Hp} {p : Addr} {xs : List V} (h : S p = some (.tup xs)) : Th K S 0 (.ref p) := by
  unfold Th
  exact ⟨_, .base (.tup h), kit_ty (show kitB "tuple" "int" = some false by decide +kernel), kit_ty (show kitB "tuple" "bool" = some false by decide +kernel), .inr ⟨kit_ty (by decide +kernel), p, xs, rfl, h, True.intro⟩⟩
theorem eqv_ints : ∀ l k : List Int, PyData.eqvAll (l.map .int) (k.map .int) = decide (l = k)
  | [], [] => by simp [PyData.eqvAll]
  | [], y :: k => by simp [PyData.eqvAll]
  | x :: l, [] => by simp [PyData.eqvAll]
  | x :: l, y :: k => by
    have ih := eqv_ints l k
    simp only [List.map_cons, PyData.eqvAll, PyData.eqv, ih]
    by_cases h : x = y <;> by_cases g : l = k <;> simp [h, g]
def dT (ll : List (List Int)) : PyData := .tuple (ll.map fun l => .tuple (l.map .int))
theorem eqv_lists : ∀ l k : List (List Int), PyData.eqvAll (l.map fun l => .tuple (l.map .int)) (k.map fun l => .tuple (l.map .int)) = decide (l = k)
  | [], [] => by simp [PyData.eqvAll]
  | [], y :: k => by simp [PyData.eqvAll]
  | x :: l, [] => by simp [PyData.eqvAll]
  | x :: l, y :: k => by
    have ih := eqv_lists l k
    simp only [List.map_cons, PyData.eqvAll, PyData.eqv, ih, eqv_ints]
    by_cases h : x = y <;> by_cases g : l = k <;> simp [h, g]
theorem eqv_dT (l k : List (List Int)) : PyData.eqv (dT l) (dT k) = decide (l = k) := by
  show PyData.eqvAll _ _ = _
  exact eqv_lists l k
theorem lay_ints : ∀ l : List Int, PyData.canLayAll0 (l.map .int) = true ∧ PyData.depthAll (l.map .int) = 0
  | [] => ⟨by simp [PyData.canLayAll0], by simp [PyData.depthAll]⟩
  | x :: l => by
    obtain ⟨h, g⟩ := lay_ints l
    exact ⟨by simp [PyData.canLayAll0, PyData.canLay0, h], by simp [PyData.depthAll, PyData.depth, g]⟩
theorem lay_lists : ∀ l : List (List Int), PyData.canLayAll0 (l.map fun l => .tuple (l.map .int)) = true ∧ PyData.depthAll (l.map fun l => .tuple (l.map .int)) ≤ 1
  | [] => ⟨by simp [PyData.canLayAll0], by simp [PyData.depthAll]⟩
  | x :: l => by
    obtain ⟨h, g⟩ := lay_lists l
    obtain ⟨h1, g1⟩ := lay_ints x
    refine ⟨by simp [PyData.canLayAll0, PyData.canLay0, h, h1], ?_⟩
    simp only [List.map_cons, PyData.depthAll, PyData.depth, g1]
    omega
theorem shaped_dT (l : List (List Int)) : SeqAt.shaped (dT l) = true := by
  obtain ⟨h, g⟩ := lay_lists l
  refine Bool.and_eq_true_iff.mpr ⟨by unfold dT; rw [PyData.canLay0]; exact h, decide_eq_true ?_⟩
  unfold dT
  rw [PyData.depth]
  exact Nat.le_trans (Nat.succ_le_succ g) (by decide)
/-- a tuple of tuples of ints stands at b -/
def TT (H : Hp) (b : Addr) (ll : List (List Int)) : Prop := ∃ as : List Addr, H b = some (.tup (as.map V.ref)) ∧ Paired (fun a l => H a = some (.tup (l.map V.int))) as ll
theorem Paired.imp' {α β : Type} {F G : α → β → Prop} (h : ∀ a b, F a b → G a b) : ∀ {l : List α} {k : List β}, Paired F l k → Paired G l k
  | _, _, .nil => .nil
  | _, _, .cons a r => .cons (h _ _ a) (Paired.imp' h r)
theorem TT.ext {H H' : Hp} {b : Addr} {ll : List (List Int)} (e : Ext H H') (h : TT H b ll) : TT H' b ll := by
  obtain ⟨as, h1, h2⟩ := h
  exact ⟨as, e _ _ h1, Paired.imp' (fun a l h => e _ _ h) h2⟩
theorem dp_ints {K : PySem.W.Frag} {H : Hp} : ∀ l : List Int, DpAll K H (l.map V.int) (l.map .int)
  | [] => .nil
  | x :: l => .cons (.int x) (dp_ints l)
theorem dp_lists {K : PySem.W.Frag} {H : Hp} : ∀ {as : List Addr} {ll : List (List Int)}, Paired (fun a l => H a = some (.tup (l.map V.int))) as ll → DpAll K H (as.map V.ref) (ll.map fun l => .tuple (l.map .int))
  | _, _, .nil => .nil
  | _, _, .cons h r => .cons (.tup (SqT.of h) (dp_ints _)) (dp_lists r)
theorem TT.dp {K : PySem.W.Frag} {H : Hp} {b : Addr} {ll : List (List Int)} (h : TT H b ll) : Dp K H (.ref b) (dT ll) := by
  obtain ⟨as, h1, h2⟩ := h
  exact .tup (SqT.of h1) (dp_lists h2)
/-- the tuples at these places are these -/
abbrev PT2 (S : Hp) (as : List Addr) (ll : List (List Int)) : Prop := Paired (fun a l => S a = some (.tup (l.map V.int))) as ll
theorem PT2.len {S : Hp} : ∀ {as : List Addr} {ll : List (List Int)}, PT2 S as ll → as.length = ll.length
  | _, _, .nil => rfl
  | _, _, .cons _ r => congrArg (· + 1) (PT2.len r)
theorem PT2.get {S : Hp} : ∀ {as : List Addr} {ll : List (List Int)} {i : Nat} {a : Addr}, PT2 S as ll → as[i]? = some a → ∃ l, ll[i]? = some l ∧ S a = some (.tup (l.map V.int))
  | _, _, i, _, .nil, h => by simp at h
  | _, _, 0, _, .cons x _, h => by cases h; exact ⟨_, rfl, x⟩
  | _, _, i + 1, _, .cons _ r, h => PT2.get (i := i) r (by simpa using h)
theorem PT2.put {S : Hp} {b : Addr} {l : List Int} (h : S b = some (.tup (l.map V.int))) : ∀ {as : List Addr} {ll : List (List Int)} {i : Nat}, PT2 S as ll → PT2 S (as.set i b) (ll.set i l)
  | _, _, i, .nil => by simpa using (Paired.nil)
  | _, _, 0, .cons _ r => .cons h r
  | _, _, i + 1, .cons x r => .cons x (PT2.put h r)
theorem PT2.snoc {S : Hp} {b : Addr} {l : List Int} {as : List Addr} {ll : List (List Int)} (r : PT2 S as ll) (h : S b = some (.tup (l.map V.int))) : PT2 S (as ++ [b]) (ll ++ [l]) := Paired.snoc r h
theorem PT2.mono {S S' : Hp} {as : List Addr} {ll : List (List Int)} (e : ∀ b xs, S b = some (.tup xs) → S' b = some (.tup xs)) (r : PT2 S as ll) : PT2 S' as ll := Paired.imp' (fun a l h => e _ _ h) r
theorem PT2.th {K : PySem.W.Frag} {S : Hp} {n : Nat} {as : List Addr} {ll : List (List Int)} (r : PT2 S as ll) : ∀ y ∈ as.map V.ref, Th K S (n + 1) y := by
  intro y hy
  obtain ⟨a, ha, rfl⟩ := List.mem_map.mp hy
  obtain ⟨i, hi⟩ := List.mem_iff_getElem?.mp ha
  obtain ⟨l, _, h⟩ := r.get hi
  refine Th.tup h fun z hz => ?_
  obtain ⟨k, _, rfl⟩ := List.mem_map.mp hz
  exact Th.int k
/-- two tuples put together, whichever object that is -/
theorem cat_any {K : PySem.W.Frag} {H : Hp} {Q : VK} {a b : Addr} {xs ys : List V} (ha : H a = some (.tup xs)) (hb : H b = some (.tup ys)) (len : xs.length + ys.length ≤ 1000) (k : ∀ (p : Addr) (H' : Hp), Ext H H' → H' p = some (.tup (xs ++ ys)) → Q (.ref p) H') : rCatA K (.ref a) (.ref b) H Q :=
  ⟨a, b, xs, ys, rfl, rfl, SqT.of ha, SqT.of hb, Nat.le_trans len (by decide), fun e => by subst e; exact k b H Ext.rfl' hb, fun _ e => by subst e; exact k a H Ext.rfl' (by rw [List.append_nil]; exact ha), fun _ _ p np => k p _ (Ext.upd np) upd_same⟩
theorem sl_any {K : PySem.W.Frag} {H : Hp} {Q : VK} {a : Addr} {xs : List V} {lo hi : Option Int} (ha : H a = some (.tup xs)) (k : ∀ (p : Addr) (H' : Hp), Ext H H' → H' p = some (.tup (cutV xs lo hi)) → Q (.ref p) H') : rSlA K (.ref a) lo hi H Q := by
  refine ⟨a, xs, rfl, SqT.of ha, fun z => k a H Ext.rfl' ?_, fun _ p np => k p _ (Ext.upd np) upd_same⟩
  unfold cutV
  rw [z.1, z.2, List.drop_zero, Nat.sub_zero, List.take_of_length_le (Nat.le_refl _)]
  exact ha
theorem cut_mem {xs : List V} {lo hi : Option Int} {y : V} (h : y ∈ cutV xs lo hi) : y ∈ xs := List.mem_of_mem_drop (List.mem_of_mem_take h)
theorem Th.tup_back {K : PySem.W.Frag} {H H1 : Hp} {n : Nat} {b : Addr} {xs : List V} (e : Ext H H1) (h : Th K H n (.ref b)) (h1 : H1 b = some (.tup xs)) : H b = some (.tup xs) := by
  unfold Th at h
  obtain ⟨t, _, _, _, h⟩ := h
  rcases h with ⟨_, h⟩ | ⟨_, b', ys, e', hb, _⟩
  · obtain ⟨o, ho, no⟩ := h b rfl
    rw [e _ _ ho] at h1
    cases h1
    exact absurd rfl (no xs)
  · cases e'
    have := (e _ _ hb).symm.trans h1
    cases this
    exact hb
theorem lst_ne {H : Hp} {f b : Addr} {xs ys : List V} (hf : H f = some (.lst xs)) (hb : H b = some (.tup ys)) : b ≠ f := fun e => by
  rw [e, hf] at hb
  cases hb
theorem int_inj : ∀ {ns ks : List Int}, ns.map V.int = ks.map V.int → ns = ks
  | [], [], _ => rfl
  | n :: ns, k :: ks, h => by
    injection h with h1 h2
    injection h1 with h1
    rw [h1, int_inj h2]
  | [], k :: ks, h => by cases h
  | n :: ns, [], h => by cases h
end B46

set_option Elab.async false
set_option linter.all false
set_option maxRecDepth 100000
set_option maxHeartbeats 4000000
set_option pp.maxSteps 60
/-! Things through and through; ascending tuples. -/
namespace B46
open PySem L2
abbrev sAsc : Stmt := top 3
/-- what a thing is, through tuples -/
inductive D where
  | oth
  | non
  | bl (b : Bool)
  | int (i : Int)
  | tup (ds : List D)
mutual
inductive TD (K : PySem.W.Frag) (H : Hp) : V → D → Prop
  | oth {x : V} {t : Value} : TyX K H x t → PySem.W.kitOne K t (.type "int") = some false → PySem.W.kitOne K t (.type "bool") = some false → PySem.W.kitOne K t (.type "tuple") = some false → isI x = false → isB x = false → x ≠ .non →
      (∀ a, x = .ref a → ∃ o, H a = some o ∧ ∀ xs, o ≠ .tup xs) → TD K H x .oth
  | non : TD K H .non .non
  | bl (b : Bool) : TD K H (.bl b) (.bl b)
  | int (i : Int) : TD K H (.int i) (.int i)
  | tup {a : Addr} {xs : List V} {ds : List D} : H a = some (.tup xs) → xs.length ≤ 1000 → TDs K H xs ds → TD K H (.ref a) (.tup ds)
inductive TDs (K : PySem.W.Frag) (H : Hp) : List V → List D → Prop
  | nil : TDs K H [] []
  | cons {x : V} {d : D} {xs : List V} {ds : List D} : TD K H x d → TDs K H xs ds → TDs K H (x :: xs) (d :: ds)
end
section
variable {K : PySem.W.Frag} {H : Hp}
theorem TDs.len : ∀ {xs : List V} {ds : List D}, TDs K H xs ds → xs.length = ds.length
  | _, _, .nil => rfl
  | _, _, .cons _ r => congrArg (· + 1) (TDs.len r)
theorem TDs.get : ∀ {xs : List V} {ds : List D} {i : Nat} {x : V}, TDs K H xs ds → xs[i]? = some x → ∃ d, ds[i]? = some d ∧ TD K H x d
  | _, _, i, _, .nil, h => by simp at h
  | _, _, 0, _, .cons x _, h => by cases h; exact ⟨_, rfl, x⟩
  | _, _, i + 1, _, .cons _ r, h => TDs.get (i := i) r (by simpa using h)
mutual
theorem TD.ext {H' : Hp} (e : Ext H H') : ∀ {x : V} {d : D}, TD K H x d → TD K H' x d
  | _, _, .oth a b c d f g h i => .oth (TyX.ext a e) b c d f g h fun q z => let ⟨o, h1, h2⟩ := i q z; ⟨o, e _ _ h1, h2⟩
  | _, _, .non => .non
  | _, _, .bl b => .bl b
  | _, _, .int i => .int i
  | _, _, .tup a b c => .tup (e _ _ a) b (TDs.ext e c)
theorem TDs.ext {H' : Hp} (e : Ext H H') : ∀ {xs : List V} {ds : List D}, TDs K H xs ds → TDs K H' xs ds
  | _, _, .nil => .nil
  | _, _, .cons a r => .cons (TD.ext e a) (TDs.ext e r)
end
mutual
theorem TD.th : ∀ {n : Nat} {x : V} {d : D}, TD K H x d → Th K H n x
  | _, _, _, .oth a b c d f g h i => Th.plain a (by rw [b, f, g]; rfl) (by rw [c, g]) d i
  | _, _, _, .non => Th.non
  | _, _, _, .bl b => Th.bl b
  | _, _, _, .int i => Th.int i
  | 0, _, _, .tup a _ _ => Th.tup0 a
  | n + 1, _, _, .tup a _ c => Th.tup a (TDs.th c)
theorem TDs.th : ∀ {n : Nat} {xs : List V} {ds : List D}, TDs K H xs ds → ∀ y ∈ xs, Th K H n y
  | _, _, _, .nil => fun y h => nomatch h
  | n, _, _, .cons a r => fun y h => by
    rcases List.mem_cons.mp h with e | h
    · rw [e]; exact TD.th a
    · exact TDs.th r y h
end
end
def numD (m : Int) : D → Bool
  | .int i => decide (0 ≤ i) && decide (i ≤ m)
  | _ => false
theorem num_td {K : PySem.W.Frag} {H : Hp} {m : Int} {x : V} {d : D} (h : TD K H x d) : numV m x = numD m d := by
  cases h with
  | oth a b c d f g h i => cases x <;> first | rfl | cases f
  | non => rfl
  | bl b => rfl
  | int i => rfl
  | tup a b c => rfl
theorem numD_true {m : Int} {d : D} : numD m d = true ↔ ∃ i, d = .int i ∧ 0 ≤ i ∧ i ≤ m := by
  cases d <;> simp [numD]
/-- an ascending tuple of numbers up to m -/
def AscP (m : Int) (d : D) : Prop := ∃ ns : List Int, d = .tup (ns.map .int) ∧ (∀ n ∈ ns, 0 ≤ n ∧ n ≤ m) ∧ ns.Pairwise (· < ·)
def spAsc (K : PySem.W.Frag) : Sp := fun vs H Q _ => ∃ (m : Int) (x : V) (d : D), vs = [.int m, x] ∧ TD K H x d ∧ ∀ (bb : Bool) (H' : Hp), (bb = true ↔ AscP m d) → Ext H H' → Q (.bl bb) H'
theorem adj_pairwise : ∀ (ns : List Int), (∀ p ∈ ns.zip ns.tail, p.1 < p.2) ↔ ns.Pairwise (· < ·)
  | [] => by simp
  | [n] => by simp
  | n :: m :: r => by
    have ih := adj_pairwise (m :: r)
    constructor
    · intro h
      have hm : n < m := h (n, m) (by simp)
      have hr := ih.mp fun p hp => h p (by
        show p ∈ (n, m) :: (m :: r).zip r
        exact List.mem_cons_of_mem _ hp)
      refine List.pairwise_cons.mpr ⟨fun a ha => ?_, hr⟩
      rcases List.mem_cons.mp ha with rfl | ha
      · exact hm
      · exact Int.lt_trans hm ((List.pairwise_cons.mp hr).1 a ha)
    · intro h p hp
      obtain ⟨h1, h2⟩ := List.pairwise_cons.mp h
      have hp' : p ∈ (n, m) :: (m :: r).zip r := hp
      rcases List.mem_cons.mp hp' with rfl | hp'
      · exact h1 m List.mem_cons_self
      · exact ih.mpr h2 p hp'
theorem low_ints {m : Int} : ∀ {ds : List D}, (∀ y ∈ ds, numD m y = true) → ∃ ns : List Int, ds = ns.map .int ∧ ∀ n ∈ ns, 0 ≤ n ∧ n ≤ m
  | [], _ => ⟨[], rfl, fun n h => by cases h⟩
  | y :: ys, h => by
    obtain ⟨i, rfl, h1, h2⟩ := numD_true.mp (h y List.mem_cons_self)
    obtain ⟨ns, rfl, h3⟩ := low_ints (ds := ys) fun z hz => h z (List.mem_cons_of_mem _ hz)
    refine ⟨i :: ns, rfl, fun n hn => ?_⟩
    rcases List.mem_cons.mp hn with rfl | hn
    · exact ⟨h1, h2⟩
    · exact h3 n hn
theorem ints_td {K : PySem.W.Frag} {H : Hp} : ∀ {ns : List Int} {xs : List V}, TDs K H xs (ns.map .int) → xs = ns.map V.int
  | [], _, .nil => rfl
  | n :: ns, _, .cons (.int _) r => by rw [List.map_cons, ints_td r]
theorem td_ints {K : PySem.W.Frag} {H : Hp} : ∀ (ns : List Int), TDs K H (ns.map V.int) (ns.map .int)
  | [] => .nil
  | n :: ns => .cons (.int n) (td_ints ns)
theorem dint_inj : ∀ {ns ks : List Int}, ns.map D.int = ks.map D.int → ns = ks
  | [], [], _ => rfl
  | n :: ns, k :: ks, h => by
    injection h with h1 h2
    injection h1 with h1
    rw [h1, dint_inj h2]
  | [], k :: ks, h => by cases h
  | n :: ns, [], h => by cases h
theorem map_int_get {ns : List Int} {i : Nat} {x : V} (h : (ns.map V.int)[i]? = some x) : ∃ n, ns[i]? = some n ∧ x = .int n := by
  rw [List.getElem?_map] at h
  cases e : ns[i]? with
  | none => rw [e] at h; cases h
  | some n => rw [e] at h; cases h; exact ⟨n, rfl, rfl⟩
/-- zip of a tuple and a shorter one -/
theorem lc_zipM {K : PySem.W.Frag} {a b : Addr} {xs ys : List V} {g : TG} {tt : L2.TT} {te : TE} {vs : List Nat} {τ : L2.St} {H1 : Hp} {D : Addr} {Qd : Hp → Prop} (len : ys.length ≤ xs.length) (Pv : Nat → Hp → Prop) (h0 : Pv 0 (upd H1 D (.lst [])))
    (hq : ∀ i H, Pv i H → SqT K H a xs ∧ SqT K H b ys)
    (hs : ∀ i x y t H, xs[i]? = some x → ys[i]? = some y → Pv i H → H t = none → g (.ref t) (wipe τ vs) (upd H t (.tup [x, y])) fun σ2 H2 => wipe σ2 vs = wipe τ vs ∧ tt σ2 H2 fun c H3 =>
      if c = true then te σ2 H3 fun z H4 => ∃ acc, H4 D = some (.lst acc) ∧ acc.length < sizeLine ∧ Pv (i + 1) (upd H4 D (.lst (acc ++ [z]))) else Pv (i + 1) H3) (hd : ∀ H, Pv ys.length H → Qd H) :
    ∃ W : Nat → Nat → Hp → Prop, (∃ m, W 0 m (upd H1 D (.lst []))) ∧ ∀ i m H, W i m H →
      ((RZ.ItzT K a b).stop i H ∧ Qd H) ∨ ((RZ.ItzT K a b).go i H ∧ ∃ Nx : Hp → Prop, (∀ H', Nx H' → ∃ m', m' < m ∧ W (i + 1) m' H') ∧ ∀ x H', (RZ.ItzT K a b).yld i H x H' → g x (wipe τ vs) H' fun σ2 H2 => wipe σ2 vs = wipe τ vs ∧ tt σ2 H2 fun c H3 =>
        if c = true then te σ2 H3 fun z H4 => ∃ acc, H4 D = some (.lst acc) ∧ acc.length < sizeLine ∧ Nx (upd H4 D (.lst (acc ++ [z]))) else Nx H3) := by
  refine ⟨fun i m H => m + i = ys.length ∧ Pv i H, ⟨ys.length, rfl, h0⟩, ?_⟩
  rintro i m H ⟨em, p⟩
  obtain ⟨qa, qb⟩ := hq i H p
  cases m with
  | zero =>
    have e : i = ys.length := by omega
    subst e
    exact .inl ⟨⟨xs, ys, qa, qb, .inr (Nat.le_refl _)⟩, hd H p⟩
  | succ k =>
    have lb : i < ys.length := by omega
    have la : i < xs.length := by omega
    have ea : xs[i]? = some xs[i] := List.getElem?_eq_getElem la
    have eb : ys[i]? = some ys[i] := List.getElem?_eq_getElem lb
    refine .inr ⟨⟨xs, ys, _, _, qa, qb, ea, eb⟩, Pv (i + 1), fun H' p' => ⟨k, Nat.lt_succ_self k, by omega, p'⟩, fun v H' y => ?_⟩
    obtain ⟨t, x', y', rfl, nt, rfl, f1, f2⟩ := y
    exact hs i x' y' t H (f1 xs qa) (f2 ys qb) p nt
/-- isinstance(x, tuple) -/
def isT : D → Bool | .tup _ => true | _ => false
theorem td_isT {K : PySem.W.Frag} {H : Hp} {x : V} {d : D} (h : TD K H x d) : ∃ t, TyX K H x t ∧ PySem.W.kitOne K t (.type "tuple") = some (isT d) := by
  cases h with
  | oth a b c d f g h i => exact ⟨_, a, d⟩
  | non => exact ⟨_, .base .non, kit_ty (show kitB "NoneType" "tuple" = some false by decide +kernel)⟩
  | bl b => exact ⟨_, .base (.bl b), kit_ty (show kitB "bool" "tuple" = some false by decide +kernel)⟩
  | int i => exact ⟨_, .base (.int i), kit_ty (show kitB "int" "tuple" = some false by decide +kernel)⟩
  | tup a b c => exact ⟨_, .base (.tup a), kit_ty (show kitB "tuple" "tuple" = some true by decide +kernel)⟩
structure MoreC (mg : Str → Option Value) : Prop where
  zip : mg "zip" = none
section
variable {P : Program} {w : World} {K : PySem.W.Frag} {mg : Str → Option Value} {base : Heap}
abbrev ascN : List Str := ["most", "thing", "item", "after"]
theorem scAsc : FnScope ascN ["most", "thing"] (defScope sAsc) := ⟨rfl, rfl, rfl, by decide +kernel, rfl, by decide +kernel, by decide +kernel⟩
theorem ok_asc {f : Addr} {fd : FuncData} (F : L2.Fun K "is_ascending" "is_ascending" sAsc f fd) (T : Gb mg) (M : MoreC mg) (cN : Cal P w K mg base 2 "is_number" (spNumber K) []) : FnOk P w K mg base CX0 3 f fd ["most", "thing"] (spAsc K) := by
  refine F.ok scAsc (fun vs H Q E h => ?_) (fun cdv A outer s H vs Q E hr h => ?_)
  · obtain ⟨m, x, d, rfl, _⟩ := h
    rfl
  · obtain ⟨m, x, d, rfl, td, k⟩ := h
    obtain ⟨t, ty, kt⟩ := td_isT td
    refine ⟨_, pss_cons (ps_if (PW.pt (pw_or (pt_not (pt_val (pe_callB call_isi (by rfl) T.isi (by decide +kernel) (pa_cons (pv 1) (pa_cons (pe_bltn (v := .ty "tuple") (by rfl) T.tup (by decide +kernel) rfl) pa_nil))))) (pw_or1 (pt_not (pt_val (pe_callB (cr_all rfl) (by rfl) T.all (by decide +kernel) (pa_cons (pe_lc (own := [("item", 2)]) (g := gName 2) (tt := tYes) rfl scAsc.nd (pi_tup (pv 1)) (blkOk_by (N := ascN) (sc := defScope sAsc) (by decide +kernel)) (fun _ _ _ _ _ => (pg_name (i := 2) scAsc.nd rfl (Or.inl rfl))) (fun _ _ _ _ _ => pts_nil) (fun _ _ _ _ _ => (C8.pe_c cN hr (by decide) (by rfl) (pa_cons (pv 0) (pa_cons (pv 2) pa_nil))))) pa_nil))))))) (pss_one (ps_ret pe_bl)) pss_nil)
      (pss_one (ps_ret (pe_callB (cr_all rfl) (by rfl) T.all (by decide +kernel) (pa_cons (pe_lc (own := [("item", 2), ("after", 3)]) (g := gTup K 2 (gCons (gName 2) (gCons (gName 3) gNil))) (tt := tYes) rfl scAsc.nd (RZ.pi_zipA (by rfl) M.zip (pa_cons (pv 1) (pa_cons (pe_slice sl_tupA (pv 1) (po_some pe_int) po_none) pa_nil))) (blkOk_by (N := ascN) (sc := defScope sAsc) (by decide +kernel)) (fun _ _ _ _ _ => (pg_tup rfl (pgs_cons (pg_name (i := 2) scAsc.nd rfl (Or.inl rfl)) (pgs_cons (pg_name (i := 3) scAsc.nd rfl (Or.inl rfl)) pgs_nil)))) (fun _ _ _ _ _ => pts_nil) (fun _ _ _ _ _ => (pe_cmpR op_lt (pv 2) (pv 3) (nomark _)))) pa_nil)))), ?_⟩
    cases hd : isT d with
    | false =>
      rw [hd] at kt
      refine ⟨_, rfl, x, .ty "tuple", t, .type "tuple", _, rfl, .ty _, ty, kt, _, rfl, ?_⟩
      exact iteT (iteT (k false H ⟨fun z => Bool.noConfusion z, fun ⟨ns, e, _⟩ => by rw [e] at hd; cases hd⟩ Ext.rfl'))
    | true =>
      rw [hd] at kt
      cases td with
      | tup ha len ts =>
        rename_i a xs ds
        refine ⟨_, rfl, _, .ty "tuple", t, .type "tuple", _, rfl, .ty _, ty, kt, _, rfl, ?_⟩
        refine iteF ?_
        refine ⟨_, rfl, a, rfl, ⟨_, SqT.of ha⟩, fun D hD => ?_⟩
        have hda : a ≠ D := ne_of_none ha hD
        have ld := ts.len
        refine lc_tup (K := K) (a := a) (xs := xs) (fun i H' => H' = upd H D (.lst (((ds.take i).map (numD m)).map V.bl))) (by simp) (fun i H' _ e => by subst e; exact SqT.of (by rw [upd_ne hda]; exact ha)) ?_ ?_
        · rintro i y H' hi rfl
          refine ⟨rfl, tyes_in ?_⟩
          obtain ⟨d, hd, tdd⟩ := ts.get hi
          have lt := (List.getElem?_eq_some_iff.mp hd).1
          refine ⟨_, rfl, _, rfl, m, y, rfl, TD.th (tdd.ext (Ext.upd hD)), _, upd_same, small1000 (by simp; omega), ?_⟩
          rw [upd_upd, List.take_succ, hd, num_td tdd]
          simp
        · rintro H' rfl
          rw [ld, List.take_of_length_le (Nat.le_refl _)]
          have e1 : Ext H (upd H D (.lst ((ds.map (numD m)).map V.bl))) := Ext.upd hD
          have hD1 : (upd H D (.lst ((ds.map (numD m)).map V.bl))) D = some (.lst ((ds.map (numD m)).map V.bl)) := upd_same
          generalize upd H D (.lst ((ds.map (numD m)).map V.bl)) = H1 at *
          cases ball : (ds.map (numD m)).all id with
          | false =>
            refine ⟨D, _, rfl, SqL.of hD1, false, congrArg V.bl ball, ?_⟩
            refine iteT ?_
            refine k false H1 ⟨fun z => Bool.noConfusion z, fun ⟨ns, e, lo, _⟩ => ?_⟩ e1
            injection e with e
            subst e
            have : (List.map (numD m) (List.map B46.D.int ns)).all id = true := List.all_eq_true.mpr fun b hb => by
              obtain ⟨y, hy, rfl⟩ := List.mem_map.mp hb
              obtain ⟨n, hn, rfl⟩ := List.mem_map.mp hy
              exact numD_true.mpr ⟨n, rfl, (lo n hn).1, (lo n hn).2⟩
            rw [this] at ball
            cases ball
          | true =>
            refine ⟨D, _, rfl, SqL.of hD1, true, congrArg V.bl ball, ?_⟩
            refine iteF ?_
            obtain ⟨ns, rfl, low⟩ := low_ints fun y hy => List.all_eq_true.mp ball (numD m y) (List.mem_map_of_mem hy)
            have ex := ints_td ts
            subst ex
            refine ⟨_, rfl, _, rfl, 1, rfl, ?_⟩
            dsimp only [tNoPart]
            refine sl_any (K := K) (lo := some 1) (hi := none) (e1 _ _ ha) fun q H2 e3 hq => ?_
            have ct : cutV (ns.map V.int) (some 1) none = ns.tail.map V.int := by
              unfold cutV
              rw [show (1 : Int) = ((1 : Nat) : Int) from rfl, HT.sIx_nat, HT.sIx_none, List.take_of_length_le (by rw [List.length_drop]; exact Nat.le_refl _)]
              cases ns with
              | nil => rfl
              | cons n r =>
                rw [show min 1 (List.map V.int (n :: r)).length = 1 by simp]
                rfl
            rw [ct] at hq
            have ha2 := e3 _ _ (e1 _ _ ha)
            refine ⟨a, q, _, _, rfl, .inr ⟨SqT.of ha2, SqT.of hq, fun D2 nD2 => ?_⟩⟩
            refine lc_zipM (K := K) (a := a) (b := q) (xs := ns.map V.int) (ys := ns.tail.map V.int) (by rw [List.length_map, List.length_map, List.length_tail]; omega) (fun i H' => Ext H2 H' ∧ H' D2 = some (.lst ((((ns.zip ns.tail).take i).map fun p => decide (p.1 < p.2)).map V.bl))) ⟨Ext.upd nD2, upd_same⟩ (fun i H' z => ⟨SqT.of (z.1 _ _ ha2), SqT.of (z.1 _ _ hq)⟩) ?_ ?_
            · rintro i u v t' H' hu hv ⟨ex, hD2⟩ nt'
              obtain ⟨n, hn, rfl⟩ := map_int_get hu
              obtain ⟨m', hm, rfl⟩ := map_int_get hv
              refine ⟨t', _, rfl, SqT.of upd_same, rfl, _, _, rfl, _, _, rfl, rfl, rfl, tyes_in ?_⟩
              have hz : (ns.zip ns.tail)[i]? = some (n, m') := List.getElem?_zip_eq_some.mpr ⟨hn, hm⟩
              have li := (List.getElem?_eq_some_iff.mp hn).1
              rw [List.length_map] at len
              refine ⟨_, rfl, _, rfl, _, _, rfl, rfl, _, Ext.upd nt' _ _ hD2, small1000 (by rw [List.length_map, List.length_map, List.length_take]; omega), fun b' o eo => ?_, ?_⟩
              · rw [upd_ne (ne_of_none eo nD2)]
                exact Ext.upd nt' _ _ (ex _ _ eo)
              · rw [upd_same, List.take_succ, hz, List.map_append, List.map_append]
                rfl
            · rintro H' ⟨ex, hD2⟩
              have lz : (ns.zip ns.tail).length ≤ (ns.tail.map V.int).length := by rw [List.length_zip, List.length_map]; omega
              rw [List.take_of_length_le lz] at hD2
              refine ⟨D2, _, rfl, SqL.of hD2, ?_⟩
              refine k _ H' ?_ (e1.trans (e3.trans ex))
              constructor
              · intro z
                refine ⟨ns, rfl, low, (adj_pairwise ns).mp fun p hp => ?_⟩
                have := List.all_eq_true.mp z (decide (p.1 < p.2)) (List.mem_map_of_mem hp)
                exact of_decide_eq_true this
              · rintro ⟨ms, e, _, pw⟩
                injection e with e
                rw [← dint_inj e] at pw
                refine List.all_eq_true.mpr fun bb hb => ?_
                obtain ⟨p, hp, rfl⟩ := List.mem_map.mp hb
                exact decide_eq_true ((adj_pairwise ns).mpr pw p hp)
      | _ => cases hd
end
end B46

set_option Elab.async false
set_option linter.all false
set_option maxRecDepth 100000
set_option maxHeartbeats 4000000
set_option pp.maxSteps 60
/-! The bag. -/
namespace B46
open PySem L2
section
variable {P : Program} {w : World} {K : PySem.W.Frag} {mg : Str → Option Value} {base : Heap}
abbrev bagN : List Str := ["_law_script", "_law_great", "_law_seed", "_law_cell"]
theorem scBag : FnScope bagN ["_law_script"] (defScope sBag) := ⟨rfl, rfl, rfl, by decide +kernel, rfl, by decide +kernel, by decide +kernel⟩
theorem ok_bag {f : Addr} {fd : FuncData} (F : L2.Fun K "_law_bag" "_law_bag" sBag f fd) (T : Gb mg) : FnOk P w K mg base CX0 1 f fd ["_law_script"] (spBag K) := by
  refine F.ok scBag (fun vs H Q E h => ?_) (fun cdv A outer s H vs Q E hr h => ?_)
  · obtain ⟨a, ns, rfl, _⟩ := h
    rfl
  · obtain ⟨a, ns, rfl, hS, hlen, k⟩ := h
    refine ⟨_, pss_cons (ps_setLc (i := 1) (own := [("_law_cell", 3)]) (g := gName 3) rfl scBag.nd rfl rfl (sw_true rfl rfl rfl (by decide +kernel)) (pi_list (pe_slice sl_list (pv 0) po_none (po_some pe_int))) (blkOk_by (N := bagN) (sc := defScope sBag) (by decide +kernel))
        (fun _ _ _ _ _ => pg_name (i := 3) scBag.nd rfl (Or.inl rfl))
        (fun _ _ _ _ _ => pts_one (pt_cmpR op_ge (pe_callB call_abs (by rfl) T.abs (by decide +kernel) (pa_cons (pe_callTy call_int1 (by rfl) T.int (by decide +kernel) (pa_cons (pv 3) pa_nil)) pa_nil)) (pe_op op_pow pe_int pe_int) (nomark _)))
        (fun _ _ _ _ _ => pe_callB call_abs (by rfl) T.abs (by decide +kernel) (pa_cons (pe_callTy call_int1 (by rfl) T.int (by decide +kernel) (pa_cons (pv 3) pa_nil)) pa_nil)))
      (pss_cons (ps_set (i := 2) scBag.nd rfl (Or.inl rfl) pe_int)
      (pss_cons (ps_for PassesOwn.never rfl (pi_list (pe_slice sl_list (pv 0) po_none (po_some pe_int))) (pg_name (i := 3) scBag.nd rfl (Or.inl rfl))
        (pss_one (ps_set (i := 2) scBag.nd rfl (Or.inl rfl) (pe_op op_mod (pe_callTy call_int1 (by rfl) T.int (by decide +kernel) (pa_cons
          (pe_op op_add (pe_op op_add (pe_op op_add (pe_op op_mul (pv 2) pe_int) (pe_op op_mul (pe_callB call_abs (by rfl) T.abs (by decide +kernel) (pa_cons (pe_callTy call_int1 (by rfl) T.int (by decide +kernel) (pa_cons (pv 3) pa_nil)) pa_nil)) pe_int))
            (pe_callTy call_int1 (by rfl) T.int (by decide +kernel) (pa_cons (pe_cmpR op_lt (pe_callTy call_int1 (by rfl) T.int (by decide +kernel) (pa_cons (pv 3) pa_nil)) pe_int (nomark _)) pa_nil))) pe_int) pa_nil)) pe_int))))
      (pss_one (ps_ret (pe_lst (pa_cons (pv 1) (pa_cons (pv 2) (pa_cons (pe_callB call_len_seq (by rfl) T.len PySem.boot_len (pa_cons (pv 0) pa_nil)) (pa_cons pe_int pa_nil))))))))), ?_⟩
    have all : ∀ y ∈ cutV (ns.map V.int) Option.none (some 63), ∃ i, y = V.int i := fun y hy => by
      have hy := List.mem_of_mem_drop (List.mem_of_mem_take hy)
      obtain ⟨i, _, rfl⟩ := List.mem_map.mp hy
      exact ⟨i, rfl⟩
    have cl : (cutV (ns.map V.int) Option.none (some 63)).length ≤ 63 := Nat.le_trans (cutV_length _ _ _) (by rw [List.length_map]; exact hlen)
    refine ⟨_, rfl, 63, rfl, a, _, rfl, hS, fun l nl => ?_⟩
    generalize cutV (ns.map V.int) Option.none (some 63) = xs at *
    refine ⟨l, rfl, ⟨_, SqL.of upd_same⟩, fun D nD => lc_list (K := K) (a := l) (xs := xs) (fun i H' => ∃ cs : List Int, H' = upd (upd H l (.lst xs)) D (.lst (cs.map V.int)) ∧ cs.length ≤ i) ⟨[], rfl, Nat.le_refl _⟩ (fun i H' _ ⟨cs, e, _⟩ => by rw [e]; exact SqL.of (Ext.upd nD _ _ upd_same)) ?_ ?_⟩
    · rintro i y H' hy ⟨cs, rfl, hc⟩
      obtain ⟨z, rfl⟩ := all y (List.mem_of_getElem? hy)
      have hi := (List.getElem?_eq_some_iff.mp hy).1
      refine ⟨rfl, _, rfl, .inl ⟨_, rfl, _, rfl, _, _, rfl, rfl, ⟨by decide, by decide, by decide⟩, _, _, rfl, rfl, _, rfl, ?_⟩⟩
      refine ite2 (fun _ => ?_) (fun _ => ⟨cs, rfl, by omega⟩)
      refine ⟨_, rfl, .inl ⟨_, rfl, _, rfl, ?_⟩⟩
      refine ⟨_, upd_same, by rw [List.length_map]; exact small1000 (by omega), cs ++ [if z < 0 then -z else z], ?_, by rw [List.length_append]; exact Nat.succ_le_succ hc⟩
      rw [upd_upd, List.map_append]
      rfl
    · rintro H' ⟨cs, rfl, hc⟩
      have e1 : Ext H (upd (upd H l (.lst xs)) D (.lst (cs.map V.int))) := (Ext.upd nl).trans (Ext.upd nD)
      have gD : (upd (upd H l (.lst xs)) D (.lst (cs.map V.int))) D = some (.lst (cs.map V.int)) := upd_same
      generalize upd (upd H l (.lst xs)) D (.lst (cs.map V.int)) = H1 at *
      refine ⟨_, rfl, 63, rfl, a, _, rfl, hS.ext e1, fun l2 nl2 => ?_⟩
      have e2 := Ext.upd (o := .lst (cutV (ns.map V.int) Option.none (some 63))) nl2
      refine ⟨l2, rfl, ⟨_, SqL.of upd_same⟩, for_list (K := K) (a := l2) (xs := cutV (ns.map V.int) Option.none (some 63)) (fun i σ' H' => (∃ (z : Int) (v : Option V), σ' = [some (.ref a), some (.ref D), some (.int z), v]) ∧ H' = upd H1 l2 (.lst (cutV (ns.map V.int) Option.none (some 63)))) ⟨⟨146, _, rfl⟩, rfl⟩ (fun i σ' H' _ h => by rw [h.2]; exact SqL.of upd_same) ?_ ?_⟩
      · rintro i y σ' H' hy ⟨⟨z, v, rfl⟩, rfl⟩
        obtain ⟨c, hc'⟩ : ∃ c, y = V.int c := by
          have hy := List.mem_of_mem_drop (List.mem_of_mem_take (List.mem_of_getElem? hy))
          obtain ⟨i, _, rfl⟩ := List.mem_map.mp hy
          exact ⟨i, rfl⟩
        subst hc'
        refine ⟨_, rfl, _, _, rfl, rfl, .inr ⟨by decide, by decide⟩, ?_⟩
        refine ⟨_, rfl, .inl ⟨_, rfl, _, rfl, _, _, rfl, rfl, .inr ⟨by decide, by decide⟩, _, _, rfl, rfl, _, rfl, .inl ⟨_, rfl, _, _, rfl, rfl, .inr ⟨_, rfl, _, _, rfl, rfl, _, _, rfl, rfl, .inl ⟨_, rfl, _, _, rfl, rfl, (by show (0 : Int) < 2147483629; decide), ?_⟩⟩⟩⟩⟩
        exact ⟨⟨_, _, rfl⟩, rfl⟩
      · rintro σ' H' ⟨⟨z, v, rfl⟩, rfl⟩
        refine ⟨_, rfl, _, rfl, _, rfl, a, _, rfl, .inl ((hS.ext e1).ext e2), (by show 4 ≤ sizeLine; decide), fun r nr => ?_⟩
        exact k r D _ (fun b o hb => Ext.upd nr _ _ (e2 _ _ (e1 _ _ hb))) ⟨cs, z, _, 0, upd_same, Ext.upd nr _ _ (e2 _ _ gD)⟩
end
end B46

set_option Elab.async false
set_option linter.all false
set_option maxRecDepth 100000
set_option maxHeartbeats 4000000
set_option pp.maxSteps 60
/-! Bars, one by one; right bar lists. -/
namespace B46
open PySem L2
abbrev sMoment : Stmt := top 12
abbrev sIsBar : Stmt := top 13
abbrev sDemB : Stmt := top 14
abbrev sDem2 : Stmt := top 15
abbrev sFit : Stmt := top 16
abbrev sShort : Stmt := top 17
abbrev sLong : Stmt := top 18
abbrev sFits : Stmt := top 26
abbrev sIsLong : Stmt := top 27
abbrev Bar := Int × Option Int
def gV : Option Int → V
  | none => .non
  | some g => .int g
def barL (b : Bar) : List V := [.int b.1, gV b.2]
def okBar (b : Bar) : Prop := -1000 ≤ b.1 ∧ b.1 ≤ 1000 ∧ ∀ g, b.2 = some g → b.1 < g ∧ g ≤ 1000
/-- bars at their places -/
abbrev BT (S : Hp) (as : List Addr) (L : List Bar) : Prop := Paired (fun a b => S a = some (.tup (barL b))) as L
theorem BT.len {S : Hp} {as : List Addr} {L : List Bar} (h : BT S as L) : as.length = L.length := Paired.length h
theorem BT.get {S : Hp} : ∀ {as : List Addr} {L : List Bar} {i : Nat} {a : Addr}, BT S as L → as[i]? = some a → ∃ b, L[i]? = some b ∧ S a = some (.tup (barL b))
  | _, _, i, _, .nil, h => by simp at h
  | _, _, 0, _, .cons x _, h => by cases h; exact ⟨_, rfl, x⟩
  | _, _, i + 1, _, .cons _ r, h => BT.get (i := i) r (by simpa using h)
theorem BT.mono {S S' : Hp} {as : List Addr} {L : List Bar} (e : ∀ b xs, S b = some (.tup xs) → S' b = some (.tup xs)) (r : BT S as L) : BT S' as L := Paired.imp' (fun _ _ h => e _ _ h) r
/-- a list of bars -/
def BL (S : Hp) (o : Addr) (L : List Bar) : Prop := ∃ as : List Addr, S o = some (.lst (as.map V.ref)) ∧ BT S as L
theorem BL.ext {S S' : Hp} {o : Addr} {L : List Bar} (e : Ext S S') (h : BL S o L) : BL S' o L := by
  obtain ⟨as, h1, h2⟩ := h
  exact ⟨as, e _ _ h1, h2.mono fun _ _ z => e _ _ z⟩
def Right (L : List Bar) : Prop := L.length ≤ 20 ∧ ∀ b ∈ L, okBar b
def fitB (x y : Bar) (e : Int) : Bool :=
  if (if x.1 - y.1 < 0 then -(x.1 - y.1) else x.1 - y.1) > e then false else
    match x.2, y.2 with
    | none, none => true
    | some g, some h => decide ((if g - h < 0 then -(g - h) else g - h) ≤ e)
    | _, _ => false
def shortB (x : Bar) (e : Int) : Bool := match x.2 with
  | none => false
  | some g => decide (g - x.1 ≤ 2 * e)
/-- the numbers of the long ones -/
def longN (L : List Bar) (e : Int) : List Int := ((List.range L.length).filter fun i => match L[i]? with | some b => !shortB b e | none => false).map fun i : Nat => (i : Int)
def spMoment : Sp := fun vs H Q _ => ∃ i : Int, vs = [.int i] ∧ -1000 ≤ i ∧ i ≤ 1000 ∧ Q (.bl true) H
def spIsBar : Sp := fun vs H Q _ => ∃ (a : Addr) (b : Bar), vs = [.ref a] ∧ H a = some (.tup (barL b)) ∧ okBar b ∧ Q (.bl true) H
def spDemB : Sp := fun vs H Q _ => ∃ (o : Addr) (L : List Bar), vs = [.ref o] ∧ BL H o L ∧ Right L ∧ ∀ H', Ext H H' → Q .non H'
def spDem2 : Sp := fun vs H Q _ => ∃ (o1 o2 : Addr) (L M : List Bar) (e : Int), vs = [.ref o1, .ref o2, .int e] ∧ BL H o1 L ∧ BL H o2 M ∧ Right L ∧ Right M ∧ 0 ≤ e ∧ e ≤ 2000 ∧ ∀ H', Ext H H' → Q .non H'
def spFit : Sp := fun vs H Q _ => ∃ (a b : Addr) (x y : Bar) (e : Int), vs = [.ref a, .ref b, .int e] ∧ H a = some (.tup (barL x)) ∧ H b = some (.tup (barL y)) ∧ Q (.bl (fitB x y e)) H
def spShort : Sp := fun vs H Q _ => ∃ (a : Addr) (x : Bar) (e : Int), vs = [.ref a, .int e] ∧ H a = some (.tup (barL x)) ∧ Q (.bl (shortB x e)) H
def spIsLong : Sp := fun vs H Q _ => ∃ (a : Addr) (x : Bar) (e : Int), vs = [.ref a, .int e] ∧ H a = some (.tup (barL x)) ∧ Q (.bl (!shortB x e)) H
def spLong : Sp := fun vs H Q _ => ∃ (o : Addr) (L : List Bar) (e : Int), vs = [.ref o, .int e] ∧ BL H o L ∧ L.length ≤ 1000 ∧ ∀ (l : Addr) (H' : Hp), Ext H H' → H' l = some (.lst ((longN L e).map V.int)) → Q (.ref l) H'
structure BarC (mg : Str → Option Value) : Prop where
  m20 : ∃ t, mg "MOST_BARS" = some (.int 20 t)
  m1000 : ∃ t, mg "MOST_MOMENT" = some (.int 1000 t)
  m2000 : ∃ t, mg "MOST_APART" = some (.int 2000 t)
section
variable {P : Program} {w : World} {K : PySem.W.Frag} {mg : Str → Option Value} {base : Heap}
theorem scMom : FnScope ["thing"] ["thing"] (defScope sMoment) := ⟨rfl, rfl, rfl, by decide +kernel, rfl, by decide +kernel, by decide +kernel⟩
theorem ok_moment {f : Addr} {fd : FuncData} (F : L2.Fun K "is_moment" "is_moment" sMoment f fd) (B : BarC mg) (cI : Cal P w K mg base 1 "is_integer" (spInteger K) []) : FnOk P w K mg base CX0 2 f fd ["thing"] spMoment := by
  obtain ⟨t1, h1⟩ := B.m1000
  refine F.ok scMom (fun vs H Q E h => ?_) (fun cdv A outer s H vs Q E hr h => ?_)
  · obtain ⟨i, rfl, _⟩ := h
    rfl
  · obtain ⟨i, rfl, a1, a2, k⟩ := h
    refine ⟨_, pss_one (ps_ret (pe_and (C8.pe_c cI hr (by decide) (by rfl) (pa_cons (pv 0) pa_nil)) (pe_one (pe_chain op_le op_le (pe_un un_neg (pe_glob (v := .int 1000) rfl h1 ⟨_, rfl⟩)) (pv 0) (pe_glob (v := .int 1000) rfl h1 ⟨_, rfl⟩))))), ?_⟩
    refine ⟨_, rfl, _, rfl, Th.int i, _, rfl, ?_⟩
    refine iteT ⟨_, rfl, _, rfl, _, _, rfl, rfl, _, rfl, ?_⟩
    rw [decide_eq_true (show -1000 ≤ i from a1)]
    refine iteT ⟨_, _, rfl, rfl, ?_⟩
    show Q (.bl (decide (i ≤ 1000))) H
    rw [decide_eq_true a2]
    exact k
theorem scIsB : FnScope ["thing"] ["thing"] (defScope sIsBar) := ⟨rfl, rfl, rfl, by decide +kernel, rfl, by decide +kernel, by decide +kernel⟩
theorem ok_isBar {f : Addr} {fd : FuncData} (F : L2.Fun K "is_bar" "is_bar" sIsBar f fd) (T : Gb mg) (cM : Cal P w K mg base 2 "is_moment" spMoment []) : FnOk P w K mg base CX0 3 f fd ["thing"] spIsBar := by
  refine F.ok scIsB (fun vs H Q E h => ?_) (fun cdv A outer s H vs Q E hr h => ?_)
  · obtain ⟨a, b, rfl, _⟩ := h
    rfl
  · obtain ⟨a, b, rfl, ha, ok, k⟩ := h
    refine ⟨_, pss_cons (ps_if (PW.pt (pw_or (pt_not (pt_val (pe_callB call_isi (by rfl) T.isi (by decide +kernel) (pa_cons (pv 0) (pa_cons (pe_bltn (v := .ty "tuple") (by rfl) T.tup (by decide +kernel) rfl) pa_nil))))) (pw_or (pt_cmpR op_ne (pe_callB call_len_seq (by rfl) T.len PySem.boot_len (pa_cons (pv 0) pa_nil)) pe_int (nomark _)) (pw_or1 (pt_not (pt_val (C8.pe_c cM hr (by decide) (by rfl) (pa_cons (pe_ix ix_tup (pv 0) pe_int (fun _ _ => rfl)) pa_nil)))))))) (pss_one (ps_ret pe_bl)) pss_nil)
      (pss_one (ps_ret (pe_or (pe_cmpR op_isN (pe_ix ix_tup (pv 0) pe_int (fun _ _ => rfl)) pe_non (nomark _)) (pe_one (pe_and (C8.pe_c cM hr (by decide) (by rfl) (pa_cons (pe_ix ix_tup (pv 0) pe_int (fun _ _ => rfl)) pa_nil)) (pe_one (pe_cmpR op_lt (pe_ix ix_tup (pv 0) pe_int (fun _ _ => rfl)) (pe_ix ix_tup (pv 0) pe_int (fun _ _ => rfl)) (nomark _)))))))), ?_⟩
    obtain ⟨b1, b2⟩ := b
    obtain ⟨o1, o2, o3⟩ := ok
    refine ⟨_, rfl, _, .ty "tuple", _, .type "tuple", true, rfl, .ty _, .base (.tup ha), kit_ty (by decide +kernel), _, rfl, ?_⟩
    refine iteF ⟨_, rfl, a, _, rfl, .inr (SqT.of ha), rfl, _, rfl, ?_⟩
    refine iteF ⟨_, rfl, a, _, _, _, rfl, rfl, SqT.of ha, rfl, b1, rfl, o1, o2, _, rfl, ?_⟩
    refine iteF ?_
    cases b2 with
    | none => exact ⟨_, rfl, _, _, _, _, rfl, rfl, SqT.of ha, rfl, rfl, _, rfl, iteT k⟩
    | some g =>
      obtain ⟨g1, g2⟩ := o3 g rfl
      refine ⟨_, rfl, _, _, _, _, rfl, rfl, SqT.of ha, rfl, rfl, _, rfl, iteF ?_⟩
      refine ⟨_, rfl, _, _, _, _, rfl, rfl, SqT.of ha, rfl, g, rfl, (by have : -1000 ≤ b1 := o1; omega), g2, _, rfl, iteT ?_⟩
      refine ⟨_, rfl, _, _, _, _, rfl, rfl, SqT.of ha, rfl, _, rfl, _, _, _, _, rfl, rfl, SqT.of ha, rfl, _, _, rfl, rfl, ?_⟩
      show Q (.bl (decide (b1 < g))) H
      rw [decide_eq_true g1]
      exact k
theorem scFit : FnScope ["bar", "other", "e"] ["bar", "other", "e"] (defScope sFit) := ⟨rfl, rfl, rfl, by decide +kernel, rfl, by decide +kernel, by decide +kernel⟩
theorem ok_fit {f : Addr} {fd : FuncData} (F : L2.Fun K "fit" "fit" sFit f fd) (T : Gb mg) : FnOk P w K mg base CX0 1 f fd ["bar", "other", "e"] spFit := by
  refine F.ok scFit (fun vs H Q E h => ?_) (fun cdv A outer s H vs Q E hr h => ?_)
  · obtain ⟨a, b, x, y, e, rfl, _⟩ := h
    rfl
  · obtain ⟨a, b, x, y, e, rfl, ha, hb, k⟩ := h
    refine ⟨_, pss_cons (ps_if (pt_cmpR op_gt (pe_callB call_abs (by rfl) T.abs (by decide +kernel) (pa_cons (pe_op op_sub (pe_ix ix_tup (pv 0) pe_int (fun _ _ => rfl)) (pe_ix ix_tup (pv 1) pe_int (fun _ _ => rfl))) pa_nil)) (pv 2) (nomark _)) (pss_one (ps_ret pe_bl)) pss_nil)
      (pss_cons (ps_if (PW.pt (pw_or (pt_cmpR op_isN (pe_ix ix_tup (pv 0) pe_int (fun _ _ => rfl)) pe_non (nomark _)) (pw_or1 (pt_cmpR op_isN (pe_ix ix_tup (pv 1) pe_int (fun _ _ => rfl)) pe_non (nomark _))))) (pss_one (ps_ret (pe_and (pe_cmpR op_isN (pe_ix ix_tup (pv 0) pe_int (fun _ _ => rfl)) pe_non (nomark _)) (pe_one (pe_cmpR op_isN (pe_ix ix_tup (pv 1) pe_int (fun _ _ => rfl)) pe_non (nomark _)))))) pss_nil)
      (pss_one (ps_ret (pe_cmpR op_le (pe_callB call_abs (by rfl) T.abs (by decide +kernel) (pa_cons (pe_op op_sub (pe_ix ix_tup (pv 0) pe_int (fun _ _ => rfl)) (pe_ix ix_tup (pv 1) pe_int (fun _ _ => rfl))) pa_nil)) (pv 2) (nomark _))))), ?_⟩
    obtain ⟨b1, b2⟩ := x
    obtain ⟨c1, c2⟩ := y
    refine ⟨_, rfl, _, _, _, _, rfl, rfl, SqT.of ha, rfl, _, rfl, _, _, _, _, rfl, rfl, SqT.of hb, rfl, _, _, rfl, rfl, _, rfl, _, rfl, _, _, rfl, rfl, _, rfl, ?_⟩
    unfold fitB at k
    refine ite2 (fun q => ?_) (fun q => ?_)
    · rw [if_pos (of_decide_eq_true q)] at k
      exact k
    · rw [if_neg (fun z => q (decide_eq_true z))] at k
      cases b2 with
      | none =>
        refine ⟨_, rfl, _, _, _, _, rfl, rfl, SqT.of ha, rfl, rfl, _, rfl, iteT (iteT ?_)⟩
        refine ⟨_, rfl, _, _, _, _, rfl, rfl, SqT.of ha, rfl, rfl, _, rfl, iteT ?_⟩
        cases c2 with
        | none => exact ⟨_, rfl, _, _, _, _, rfl, rfl, SqT.of hb, rfl, rfl, k⟩
        | some h => exact ⟨_, rfl, _, _, _, _, rfl, rfl, SqT.of hb, rfl, rfl, k⟩
      | some g =>
        refine ⟨_, rfl, _, _, _, _, rfl, rfl, SqT.of ha, rfl, rfl, _, rfl, iteF ?_⟩
        cases c2 with
        | none =>
          refine ⟨_, rfl, _, _, _, _, rfl, rfl, SqT.of hb, rfl, rfl, _, rfl, iteT ?_⟩
          exact ⟨_, rfl, _, _, _, _, rfl, rfl, SqT.of ha, rfl, rfl, _, rfl, iteF k⟩
        | some h =>
          refine ⟨_, rfl, _, _, _, _, rfl, rfl, SqT.of hb, rfl, rfl, _, rfl, iteF ?_⟩
          exact ⟨_, rfl, _, _, _, _, rfl, rfl, SqT.of ha, rfl, _, rfl, _, _, _, _, rfl, rfl, SqT.of hb, rfl, _, _, rfl, rfl, _, rfl, _, rfl, _, _, rfl, rfl, k⟩
theorem scFits : FnScope ["_law_bar", "_law_other", "_law_e"] ["_law_bar", "_law_other", "_law_e"] (defScope sFits) := ⟨rfl, rfl, rfl, by decide +kernel, rfl, by decide +kernel, by decide +kernel⟩
theorem ok_fits {f : Addr} {fd : FuncData} (F : L2.Fun K "_law_fits" "_law_fits" sFits f fd) (T : Gb mg) : FnOk P w K mg base CX0 1 f fd ["_law_bar", "_law_other", "_law_e"] spFit := by
  refine F.ok scFits (fun vs H Q E h => ?_) (fun cdv A outer s H vs Q E hr h => ?_)
  · obtain ⟨a, b, x, y, e, rfl, _⟩ := h
    rfl
  · obtain ⟨a, b, x, y, e, rfl, ha, hb, k⟩ := h
    refine ⟨_, pss_cons (ps_if (pt_cmpR op_gt (pe_callB call_abs (by rfl) T.abs (by decide +kernel) (pa_cons (pe_op op_sub (pe_ix ix_tup (pv 0) pe_int (fun _ _ => rfl)) (pe_ix ix_tup (pv 1) pe_int (fun _ _ => rfl))) pa_nil)) (pv 2) (nomark _)) (pss_one (ps_ret pe_bl)) pss_nil)
      (pss_cons (ps_if (PW.pt (pw_or (pt_cmpR op_isN (pe_ix ix_tup (pv 0) pe_int (fun _ _ => rfl)) pe_non (nomark _)) (pw_or1 (pt_cmpR op_isN (pe_ix ix_tup (pv 1) pe_int (fun _ _ => rfl)) pe_non (nomark _))))) (pss_one (ps_ret (pe_and (pe_cmpR op_isN (pe_ix ix_tup (pv 0) pe_int (fun _ _ => rfl)) pe_non (nomark _)) (pe_one (pe_cmpR op_isN (pe_ix ix_tup (pv 1) pe_int (fun _ _ => rfl)) pe_non (nomark _)))))) pss_nil)
      (pss_one (ps_ret (pe_cmpR op_le (pe_callB call_abs (by rfl) T.abs (by decide +kernel) (pa_cons (pe_op op_sub (pe_ix ix_tup (pv 0) pe_int (fun _ _ => rfl)) (pe_ix ix_tup (pv 1) pe_int (fun _ _ => rfl))) pa_nil)) (pv 2) (nomark _))))), ?_⟩
    obtain ⟨b1, b2⟩ := x
    obtain ⟨c1, c2⟩ := y
    refine ⟨_, rfl, _, _, _, _, rfl, rfl, SqT.of ha, rfl, _, rfl, _, _, _, _, rfl, rfl, SqT.of hb, rfl, _, _, rfl, rfl, _, rfl, _, rfl, _, _, rfl, rfl, _, rfl, ?_⟩
    unfold fitB at k
    refine ite2 (fun q => ?_) (fun q => ?_)
    · rw [if_pos (of_decide_eq_true q)] at k
      exact k
    · rw [if_neg (fun z => q (decide_eq_true z))] at k
      cases b2 with
      | none =>
        refine ⟨_, rfl, _, _, _, _, rfl, rfl, SqT.of ha, rfl, rfl, _, rfl, iteT (iteT ?_)⟩
        refine ⟨_, rfl, _, _, _, _, rfl, rfl, SqT.of ha, rfl, rfl, _, rfl, iteT ?_⟩
        cases c2 with
        | none => exact ⟨_, rfl, _, _, _, _, rfl, rfl, SqT.of hb, rfl, rfl, k⟩
        | some h => exact ⟨_, rfl, _, _, _, _, rfl, rfl, SqT.of hb, rfl, rfl, k⟩
      | some g =>
        refine ⟨_, rfl, _, _, _, _, rfl, rfl, SqT.of ha, rfl, rfl, _, rfl, iteF ?_⟩
        cases c2 with
        | none =>
          refine ⟨_, rfl, _, _, _, _, rfl, rfl, SqT.of hb, rfl, rfl, _, rfl, iteT ?_⟩
          exact ⟨_, rfl, _, _, _, _, rfl, rfl, SqT.of ha, rfl, rfl, _, rfl, iteF k⟩
        | some h =>
          refine ⟨_, rfl, _, _, _, _, rfl, rfl, SqT.of hb, rfl, rfl, _, rfl, iteF ?_⟩
          exact ⟨_, rfl, _, _, _, _, rfl, rfl, SqT.of ha, rfl, _, rfl, _, _, _, _, rfl, rfl, SqT.of hb, rfl, _, _, rfl, rfl, _, rfl, _, rfl, _, _, rfl, rfl, k⟩
theorem scShort : FnScope ["bar", "e"] ["bar", "e"] (defScope sShort) := ⟨rfl, rfl, rfl, by decide +kernel, rfl, by decide +kernel, by decide +kernel⟩
theorem ok_short {f : Addr} {fd : FuncData} (F : L2.Fun K "is_short" "is_short" sShort f fd) : FnOk P w K mg base CX0 1 f fd ["bar", "e"] spShort := by
  refine F.ok scShort (fun vs H Q E h => ?_) (fun cdv A outer s H vs Q E hr h => ?_)
  · obtain ⟨a, x, e, rfl, _⟩ := h
    rfl
  · obtain ⟨a, x, e, rfl, ha, k⟩ := h
    refine ⟨_, pss_one (ps_ret (pe_and (pe_cmpR op_notN (pe_ix ix_tup (pv 0) pe_int (fun _ _ => rfl)) pe_non (nomark _)) (pe_one (pe_cmpR op_le (pe_op op_sub (pe_ix ix_tup (pv 0) pe_int (fun _ _ => rfl)) (pe_ix ix_tup (pv 0) pe_int (fun _ _ => rfl))) (pe_op op_mul pe_int (pv 1)) (nomark _))))), ?_⟩
    obtain ⟨b1, b2⟩ := x
    cases b2 with
    | none => exact ⟨_, rfl, _, _, _, _, rfl, rfl, SqT.of ha, rfl, rfl, _, rfl, iteF k⟩
    | some g =>
      refine ⟨_, rfl, _, _, _, _, rfl, rfl, SqT.of ha, rfl, rfl, _, rfl, iteT ?_⟩
      exact ⟨_, rfl, _, _, _, _, rfl, rfl, SqT.of ha, rfl, _, rfl, _, _, _, _, rfl, rfl, SqT.of ha, rfl, _, _, rfl, rfl, _, rfl, _, _, rfl, rfl, .inl ⟨by decide, by decide⟩, _, _, rfl, rfl, k⟩
theorem scIsL : FnScope ["_law_bar", "_law_e"] ["_law_bar", "_law_e"] (defScope sIsLong) := ⟨rfl, rfl, rfl, by decide +kernel, rfl, by decide +kernel, by decide +kernel⟩
theorem ok_isLong {f : Addr} {fd : FuncData} (F : L2.Fun K "_law_is_long" "_law_is_long" sIsLong f fd) : FnOk P w K mg base CX0 1 f fd ["_law_bar", "_law_e"] spIsLong := by
  refine F.ok scIsL (fun vs H Q E h => ?_) (fun cdv A outer s H vs Q E hr h => ?_)
  · obtain ⟨a, x, e, rfl, _⟩ := h
    rfl
  · obtain ⟨a, x, e, rfl, ha, k⟩ := h
    refine ⟨_, pss_one (ps_ret (pe_or (pe_cmpR op_isN (pe_ix ix_tup (pv 0) pe_int (fun _ _ => rfl)) pe_non (nomark _)) (pe_one (pe_cmpR op_gt (pe_op op_sub (pe_ix ix_tup (pv 0) pe_int (fun _ _ => rfl)) (pe_ix ix_tup (pv 0) pe_int (fun _ _ => rfl))) (pe_op op_mul pe_int (pv 1)) (nomark _))))), ?_⟩
    obtain ⟨b1, b2⟩ := x
    cases b2 with
    | none => exact ⟨_, rfl, _, _, _, _, rfl, rfl, SqT.of ha, rfl, rfl, _, rfl, iteT k⟩
    | some g =>
      refine ⟨_, rfl, _, _, _, _, rfl, rfl, SqT.of ha, rfl, rfl, _, rfl, iteF ?_⟩
      refine ⟨_, rfl, _, _, _, _, rfl, rfl, SqT.of ha, rfl, _, rfl, _, _, _, _, rfl, rfl, SqT.of ha, rfl, _, _, rfl, rfl, _, rfl, _, _, rfl, rfl, .inl ⟨by decide, by decide⟩, _, _, rfl, rfl, ?_⟩
      have e1 : (!shortB (b1, some g) e) = decide (g - b1 > 2 * e) := by
        show (!decide (g - b1 ≤ 2 * e)) = _
        by_cases c : g - b1 ≤ 2 * e
        · rw [decide_eq_true c, decide_eq_false (by omega)]; rfl
        · rw [decide_eq_false c, decide_eq_true (by omega)]; rfl
      rw [e1] at k
      exact k
end
end B46

set_option Elab.async false
set_option linter.all false
set_option maxRecDepth 100000
set_option maxHeartbeats 4000000
set_option pp.maxSteps 60
/-! Right bar lists demanded; the numbers of the long bars. -/
namespace B46
open PySem L2
theorem ref_get {as : List Addr} {j : Nat} {y : V} (h : (as.map V.ref)[j]? = some y) : ∃ b, as[j]? = some b ∧ y = .ref b := by
  rw [List.getElem?_map] at h
  cases e : as[j]? with
  | none => rw [e] at h; cases h
  | some b => rw [e] at h; cases h; exact ⟨b, rfl, rfl⟩
def longIx (L : List Bar) (e : Int) (n : Nat) : List Int := ((List.range n).filter fun i => match L[i]? with | some b => !shortB b e | none => false).map fun i : Nat => (i : Int)
theorem longIx_succ {L : List Bar} {e : Int} {n : Nat} {b : Bar} (h : L[n]? = some b) : longIx L e (n + 1) = longIx L e n ++ (if (!shortB b e) = true then [(n : Int)] else []) := by
  unfold longIx
  rw [List.range_succ, List.filter_append, List.map_append]
  congr 1
  rw [List.filter_cons]
  simp only [h]
  by_cases c : (!shortB b e) = true
  · rw [if_pos c, if_pos c]; rfl
  · rw [if_neg c, if_neg c]; rfl
theorem longIx_len (L : List Bar) (e : Int) (n : Nat) : (longIx L e n).length ≤ n := by
  unfold longIx
  rw [List.length_map]
  exact Nat.le_trans (List.length_filter_le _ _) (by rw [List.length_range]; exact Nat.le_refl _)
theorem mem_longN {L : List Bar} {e : Int} {i : Int} : i ∈ longN L e ↔ ∃ (n : Nat) (b : Bar), i = (n : Int) ∧ L[n]? = some b ∧ shortB b e = false := by
  unfold longN
  rw [List.mem_map]
  constructor
  · rintro ⟨n, hn, rfl⟩
    obtain ⟨h1, h2⟩ := List.mem_filter.mp hn
    cases hb : L[n]? with
    | none => simp only [hb] at h2; cases h2
    | some b =>
      simp only [hb] at h2
      exact ⟨n, b, rfl, hb, by simpa using h2⟩
  · rintro ⟨n, b, rfl, hb, hs⟩
    refine ⟨n, List.mem_filter.mpr ⟨List.mem_range.mpr (List.getElem?_eq_some_iff.mp hb).1, ?_⟩, rfl⟩
    simp only [hb, hs]
    rfl
section
variable {P : Program} {w : World} {K : PySem.W.Frag} {mg : Str → Option Value} {base : Heap}
abbrev demBN : List Str := ["thing", "bar"]
theorem scDemB : FnScope demBN ["thing"] (defScope sDemB) := ⟨rfl, rfl, rfl, by decide +kernel, rfl, by decide +kernel, by decide +kernel⟩
theorem ok_demB {f : Addr} {fd : FuncData} (F : L2.Fun K "demand_bars" "demand_bars" sDemB f fd) (T : Gb mg) (B : BarC mg) (cB : Cal P w K mg base 3 "is_bar" spIsBar []) : FnOk P w K mg base CX0 4 f fd ["thing"] spDemB := by
  obtain ⟨t20, h20⟩ := B.m20
  refine F.ok scDemB (fun vs H Q E h => ?_) (fun cdv A outer s H vs Q E hr h => ?_)
  · obtain ⟨o, L, rfl, _⟩ := h
    rfl
  · obtain ⟨o, L, rfl, ⟨as, ho, bt⟩, ⟨r1, r2⟩, k⟩ := h
    refine ⟨_, pss_cons (ps_if (PW.pt (pw_or (pt_not (pt_val (pe_callB call_isiT (by rfl) T.isi (by decide +kernel) (pa_cons (pv 0) (pa_cons (pe_tup (pa_cons (pe_bltn (v := .ty "list") (by rfl) T.list (by decide +kernel) rfl) (pa_cons (pe_bltn (v := .ty "tuple") (by rfl) T.tup (by decide +kernel) rfl) pa_nil))) pa_nil))))) (pw_or1 (pt_cmpR op_gt (pe_callB call_len_seq (by rfl) T.len PySem.boot_len (pa_cons (pv 0) pa_nil)) (pe_glob (v := .int 20) rfl h20 ⟨_, rfl⟩) (nomark _))))) (pss_one ps_never) pss_nil)
      (pss_one (ps_if (pt_not (pt_val (pe_callB (cr_all rfl) (by rfl) T.all (by decide +kernel) (pa_cons (pe_lc (own := [("bar", 1)]) (g := gName 1) (tt := tYes) rfl scDemB.nd (pi_list (pv 0)) (blkOk_by (N := demBN) (sc := defScope sDemB) (by decide +kernel)) (fun _ _ _ _ _ => (pg_name (i := 1) scDemB.nd rfl (Or.inl rfl))) (fun _ _ _ _ _ => pts_nil) (fun _ _ _ _ _ => (C8.pe_c cB hr (by decide) (by rfl) (pa_cons (pv 1) pa_nil)))) pa_nil)))) (pss_one ps_never) pss_nil)), ?_⟩
    have la := bt.len
    refine ⟨_, rfl, by show 2 ≤ sizeLine; decide, fun tp ntp => ?_⟩
    have xt := Ext.upd (o := .tup [.ty "list", .ty "tuple"]) ntp
    refine ⟨_, tp, _, .type "list", [.type "list", .type "tuple"], true, rfl, upd_same, .cons (.ty _) (.cons (.ty _) .nil), .base (.lst (xt _ _ ho)), ?_, _, rfl, ?_⟩
    · have e1 : PySem.W.kitOne K (.type "list") (.type "list") = some true := kit_ty (by decide +kernel)
      show PySem.W.kitAny K (.type "list") [.type "list", .type "tuple"] = some true
      unfold PySem.W.kitAny
      rw [e1]
    refine iteF ⟨_, rfl, o, _, rfl, .inl (SqL.of (xt _ _ ho)), _, _, rfl, rfl, _, rfl, ?_⟩
    rw [decide_eq_false (show ¬ (((as.map V.ref).length : Int) > 20) by rw [List.length_map, la]; omega)]
    refine iteF ?_
    have ho1 := xt _ _ ho
    have bt1 : BT _ as L := bt.mono fun _ _ z => xt _ _ z
    generalize upd H tp (.tup [.ty "list", .ty "tuple"]) = H1 at *
    refine ⟨_, rfl, o, rfl, ⟨_, SqL.of ho1⟩, fun D nD => ?_⟩
    refine lc_list (K := K) (a := o) (xs := as.map V.ref) (fun j H2 => H2 = upd H1 D (.lst ((List.replicate j true).map V.bl))) rfl (fun j H2 _ z => by rw [z]; exact SqL.of (Ext.upd nD _ _ ho1)) ?_ ?_
    · rintro j y H2 hy rfl
      rw [List.getElem?_map] at hy
      cases hj : as[j]? with
      | none => rw [hj] at hy; cases hy
      | some b =>
        rw [hj] at hy
        cases hy
        obtain ⟨q, hq, hb⟩ := bt1.get hj
        have lj := (List.getElem?_eq_some_iff.mp hj).1
        refine ⟨rfl, tyes_in ⟨_, rfl, b, q, rfl, Ext.upd nD _ _ hb, r2 q (List.mem_of_getElem? hq), _, upd_same, small1000 (by rw [List.length_map, List.length_replicate]; omega), ?_⟩⟩
        rw [upd_upd, List.replicate_succ', List.map_append]
        rfl
    · rintro H2 rfl
      refine ⟨D, List.replicate (as.map V.ref).length true, rfl, SqL.of upd_same, true, congrArg V.bl (by simp), ?_⟩
      exact iteF (k _ (xt.trans (Ext.upd nD)))
theorem scDem2 : FnScope ["one", "other", "e"] ["one", "other", "e"] (defScope sDem2) := ⟨rfl, rfl, rfl, by decide +kernel, rfl, by decide +kernel, by decide +kernel⟩
theorem ok_dem2 {f : Addr} {fd : FuncData} (F : L2.Fun K "demand_both" "demand_both" sDem2 f fd) (B : BarC mg) (cB : Cal P w K mg base 4 "demand_bars" spDemB []) (cN : Cal P w K mg base 2 "is_number" (spNumber K) []) : FnOk P w K mg base CX0 5 f fd ["one", "other", "e"] spDem2 := by
  obtain ⟨t2, h2⟩ := B.m2000
  refine F.ok scDem2 (fun vs H Q E h => ?_) (fun cdv A outer s H vs Q E hr h => ?_)
  · obtain ⟨o1, o2, L, M, e, rfl, _⟩ := h
    rfl
  · obtain ⟨o1, o2, L, M, e, rfl, b1, b2, rL, rM, e0, e1, k⟩ := h
    refine ⟨_, pss_cons (ps_expr (C8.pe_c cB hr (by decide) (by rfl) (pa_cons (pv 0) pa_nil)))
      (pss_cons (ps_expr (C8.pe_c cB hr (by decide) (by rfl) (pa_cons (pv 1) pa_nil)))
      (pss_one (ps_if (pt_not (pt_val (C8.pe_c cN hr (by decide) (by rfl) (pa_cons (pe_glob (v := .int 2000) rfl h2 ⟨_, rfl⟩) (pa_cons (pv 2) pa_nil))))) (pss_one ps_never) pss_nil))), ?_⟩
    refine ⟨_, rfl, o1, L, rfl, b1, rL, fun H1 x1 => ⟨_, rfl, o2, M, rfl, b2.ext x1, rM, fun H2 x2 => ?_⟩⟩
    refine ⟨_, rfl, _, _, rfl, Th.int e, _, rfl, ?_⟩
    rw [numV_true.mpr ⟨e, rfl, e0, e1⟩]
    exact iteF (k _ (x1.trans x2))
abbrev longNN : List Str := ["bars", "e", "number", "bar"]
theorem scLong : FnScope longNN ["bars", "e"] (defScope sLong) := ⟨rfl, rfl, rfl, by decide +kernel, rfl, by decide +kernel, by decide +kernel⟩
theorem ok_long {f : Addr} {fd : FuncData} (F : L2.Fun K "long_numbers" "long_numbers" sLong f fd) (T : Gb mg) (cS : Cal P w K mg base 1 "is_short" spShort []) : FnOk P w K mg base CX0 2 f fd ["bars", "e"] spLong := by
  refine F.ok scLong (fun vs H Q E h => ?_) (fun cdv A outer s H vs Q E hr h => ?_)
  · obtain ⟨o, L, e, rfl, _⟩ := h
    rfl
  · obtain ⟨o, L, e, rfl, ⟨as, ho, bt⟩, len, k⟩ := h
    refine ⟨_, pss_one (ps_ret (pe_lc (own := [("number", 2), ("bar", 3)]) (g := gTup K 2 (gCons (gName 2) (gCons (gName 3) gNil))) rfl scLong.nd (pi_enum (by rfl) T.enum (pa_cons (pv 0) pa_nil)) (blkOk_by (N := longNN) (sc := defScope sLong) (by decide +kernel)) (fun _ _ _ _ _ => (pg_tup rfl (pgs_cons (pg_name (i := 2) scLong.nd rfl (Or.inl rfl)) (pgs_cons (pg_name (i := 3) scLong.nd rfl (Or.inl rfl)) pgs_nil)))) (fun _ _ _ _ _ => (pts_one (pt_not (pt_val (C8.pe_c cS hr (by decide) (by rfl) (pa_cons (pv 3) (pa_cons (pv 1) pa_nil))))))) (fun _ _ _ _ _ => (pv 2)))), ?_⟩
    have la := bt.len
    refine ⟨_, rfl, o, _, rfl, SqL.of ho, fun D nD => ?_⟩
    refine lc_it walk_enum (fun j H2 => Ext H H2 ∧ H2 D = some (.lst ((longIx L e j).map V.int))) ⟨Ext.upd nD, upd_same⟩ (fun j H2 _ z => SqL.of (z.1 _ _ ho)) ?_ ?_
    · rintro j x H2 H3 hj ⟨x2, hD⟩ ⟨t, u, y, rfl, nt, rfl, hu, hy⟩
      cases hu
      obtain ⟨b, hja, rfl⟩ := ref_get hy
      · obtain ⟨q, hq, hb⟩ := bt.get hja
        have lj := (List.getElem?_eq_some_iff.mp hja).1
        have xt := Ext.upd (o := .tup [.int (j : Nat), .ref b]) nt
        have st := longIx_succ (e := e) hq
        have ll := longIx_len L e j
        refine ⟨t, _, rfl, SqT.of upd_same, rfl, _, _, rfl, _, _, rfl, rfl, rfl, ?_⟩
        refine ⟨_, rfl, _, rfl, b, q, e, rfl, xt _ _ (x2 _ _ hb), _, rfl, ?_⟩
        cases hs : shortB q e with
        | true =>
          refine iteF ⟨x2.trans xt, ?_⟩
          rw [st, hs, xt _ _ hD]
          simp
        | false =>
          refine iteT ⟨_, rfl, _, xt _ _ hD, small1000 (by rw [List.length_map]; omega), fun c o' ho' => ?_, ?_⟩
          · rw [upd_ne (ne_of_none ho' nD)]
            exact xt _ _ (x2 _ _ ho')
          · rw [upd_same, st, hs, List.map_append]
            rfl
    · rintro H2 ⟨x2, hD⟩
      rw [List.length_map, la] at hD
      exact k D H2 x2 hD
end
end B46

set_option Elab.async false
set_option linter.all false
set_option maxRecDepth 100000
set_option maxHeartbeats 4000000
set_option pp.maxSteps 60
/-! A comprehension over anything, its test told beforehand: what is made of each turn. -/
namespace B46
open PySem L2
/-- tuples stay -/
def TExt (H H' : Hp) : Prop := ∀ b xs, H b = some (.tup xs) → H' b = some (.tup xs)
theorem TExt.of {H H' : Hp} (e : Ext H H') : TExt H H' := fun b xs h => e b _ h
theorem TExt.trans {H H1 H2 : Hp} (x : TExt H H1) (y : TExt H1 H2) : TExt H H2 := fun b xs h => y b xs (x b xs h)
theorem TExt.put {H : Hp} {l : Addr} {xs ys : List V} (h : H l = some (.lst xs)) : TExt H (upd H l (.lst ys)) := fun b zs hb => by
  rw [upd_ne (lst_ne h hb)]
  exact hb
theorem lc_gen {J : It} {n : Nat} {G : Hp → Prop} {Y : Nat → Hp → V → Hp → Prop} (w : Walk J n G Y) {g : TG} {tt : L2.TT} {te : TE} {vs : List Nat} {σ : L2.St} {H : Hp} {D : Addr} {Qd : Hp → Prop} (nD : H D = none) (n1000 : n ≤ 1000) (p : Nat → Bool) (Pr : Nat → V → Hp → Prop)
    (mono : ∀ i y H1 H2, TExt H1 H2 → Pr i y H1 → Pr i y H2) (hG : ∀ H', Ext H H' → G H')
    (hs : ∀ i x H1 H' (R : VK) (N : Hp → Prop), i < n → Ext H H1 → Y i H1 x H' → (p i = true → ∀ y H4, Ext H1 H4 → Pr i y H4 → R y H4) → (p i = false → ∀ H4, Ext H1 H4 → N H4) →
      g x (wipe σ vs) H' fun σ2 H2 => wipe σ2 vs = wipe σ vs ∧ tt σ2 H2 fun b H3 => if b = true then te σ2 H3 R else N H3)
    (hd : ∀ ys H', Ext H H' → H' D = some (.lst ys) → Paired (fun i y => Pr i y H') ((List.range n).filter p) ys → Qd H') :
    ∃ W : Nat → Nat → Hp → Prop, (∃ m, W 0 m (upd H D (.lst []))) ∧ ∀ i m H, W i m H →
      (J.stop i H ∧ Qd H) ∨ (J.go i H ∧ ∃ Nx : Hp → Prop, (∀ H', Nx H' → ∃ m', m' < m ∧ W (i + 1) m' H') ∧ ∀ x H', J.yld i H x H' → g x (wipe σ vs) H' fun σ2 H2 => wipe σ2 vs = wipe σ vs ∧ tt σ2 H2 fun b H3 =>
        if b = true then te σ2 H3 fun y H4 => ∃ acc, H4 D = some (.lst acc) ∧ acc.length < sizeLine ∧ Nx (upd H4 D (.lst (acc ++ [y]))) else Nx H3) := by
  refine lc_it w (fun i H' => Ext H H' ∧ ∃ ys, H' D = some (.lst ys) ∧ Paired (fun i y => Pr i y H') ((List.range i).filter p) ys) ⟨Ext.upd nD, [], upd_same, .nil⟩ (fun i H' _ z => hG H' z.1) ?_ ?_
  · rintro i x H1 H' hi ⟨e1, ys, hD, pr⟩ y
    have ly : ys.length ≤ i := by
      rw [← Paired.length pr]
      exact Nat.le_trans (List.length_filter_le _ _) (by rw [List.length_range]; exact Nat.le_refl _)
    refine hs i x H1 H' _ _ hi e1 y (fun hp z H4 e4 hz => ?_) (fun hp H4 e4 => ?_)
    · have hD4 := e4 _ _ hD
      have t4 : TExt H4 (upd H4 D (.lst (ys ++ [z]))) := TExt.put hD4
      refine ⟨ys, hD4, small1000 (by omega), fun b o hb => ?_, ys ++ [z], upd_same, ?_⟩
      · rw [upd_ne (ne_of_none hb nD)]
        exact e4 _ _ (e1 _ _ hb)
      · rw [List.range_succ, List.filter_append]
        have ef : [i].filter p = [i] := by rw [List.filter_cons, if_pos hp]; rfl
        rw [ef]
        exact Paired.snoc (Paired.imp' (fun j u q => mono _ _ _ _ ((TExt.of e4).trans t4) q) pr) (mono _ _ _ _ t4 hz)
    · refine ⟨e1.trans e4, ys, e4 _ _ hD, ?_⟩
      rw [List.range_succ, List.filter_append]
      have ef : [i].filter p = [] := by rw [List.filter_cons, if_neg (by rw [hp]; exact Bool.false_ne_true)]; rfl
      rw [ef, List.append_nil]
      exact Paired.imp' (fun j u q => mono _ _ _ _ (TExt.of e4) q) pr
  · rintro H' ⟨e, ys, hD, pr⟩
    exact hd ys H' e hD pr
/-- .. of flags -/
theorem flags_of {t : Nat → Bool} {n : Nat} {ys : List V} (h : Paired (fun i y => y = V.bl (t i)) ((List.range n).filter fun _ => true) ys) : ys = ((List.range n).map t).map V.bl := by
  rw [List.filter_eq_self.mpr fun _ _ => rfl] at h
  generalize List.range n = r at h
  induction h with
  | nil => rfl
  | cons a _ ih => rw [List.map_cons, List.map_cons, ← ih, a]
theorem vals_of {f : Nat → V} {n : Nat} {p : Nat → Bool} {ys : List V} (h : Paired (fun i y => y = f i) ((List.range n).filter p) ys) : ys = ((List.range n).filter p).map f := by
  generalize (List.range n).filter p = r at h
  induction h with
  | nil => rfl
  | cons a _ ih => rw [List.map_cons, ← ih, a]
theorem range_map {α β : Type} {ds : List α} {n : Nat} (f : α → β) (z : α) (h : n = ds.length) : (List.range n).map (fun i => f (ds.getD i z)) = ds.map f := by
  subst h
  refine List.ext_getElem (by simp) fun i h1 h2 => ?_
  simp at h1
  simp [List.getElem?_eq_getElem h1]
def rLenS (K : PySem.W.Frag) : List V → Hp → VK → Prop := fun xs H Q => ∃ p ys, xs = [.ref p] ∧ (SqL K H p ys ∨ SqT K H p ys) ∧ Q (.int ys.length) H
theorem call_lenS {X : Cx} : CallR X (.builtin "len") (rLenS X.K) := call_len_seq
end B46

set_option Elab.async false
set_option linter.all false
set_option maxRecDepth 100000
set_option maxHeartbeats 4000000
set_option pp.maxSteps 60
/-! Pairs of numbers. -/
namespace B46
open PySem L2
abbrev sPairs : Stmt := top 19
def pD (p : Int × Int) : D := .tup [.int p.1, .int p.2]
def PairsP (many others : Int) (d : D) : Prop := ∃ ps : List (Int × Int), d = .tup (ps.map pD) ∧ (∀ p ∈ ps, (0 ≤ p.1 ∧ p.1 < many) ∧ 0 ≤ p.2 ∧ p.2 < others) ∧ (ps.map (·.1)).Pairwise (· < ·) ∧ (ps.map (·.2)).Nodup
def two : D → Bool
  | .tup [_, _] => true
  | _ => false
theorem two_true {d : D} (h : two d = true) : ∃ a b, d = .tup [a, b] := by
  unfold two at h
  split at h
  · exact ⟨_, _, rfl⟩
  · cases h
theorem two_len {ds : List D} : two (.tup ds) = decide (ds.length = 2) := by
  match ds with
  | [] => rfl
  | [a] => rfl
  | [a, b] => rfl
  | a :: b :: c :: r => simp [two]
/-- tuples of two, taken apart -/
theorem split2 {K : PySem.W.Frag} {H : Hp} : ∀ {xs : List V} {ds : List D}, TDs K H xs ds → (∀ d ∈ ds, two d = true) → ∃ (as : List Addr) (vs : List (V × V)) (pq : List (D × D)), xs = as.map V.ref ∧ ds = pq.map (fun r => D.tup [r.1, r.2]) ∧
    Paired (fun a v => H a = some (.tup [v.1, v.2])) as vs ∧ TDs K H (vs.map (·.1)) (pq.map (·.1)) ∧ TDs K H (vs.map (·.2)) (pq.map (·.2))
  | _, _, .nil, _ => ⟨[], [], [], rfl, rfl, .nil, .nil, .nil⟩
  | _, _, .cons (x := x) (d := d) a r, h => by
    obtain ⟨as, vs, pq, rfl, rfl, h1, h2, h3⟩ := split2 r fun d hd => h d (List.mem_cons_of_mem _ hd)
    obtain ⟨d1, d2, rfl⟩ := two_true (h d List.mem_cons_self)
    cases a with
    | tup ha hl ts =>
      rename_i a xs
      cases ts with
      | @cons v1 _ _ _ t1 ts =>
        cases ts with
        | @cons v2 _ _ _ t2 ts =>
          cases ts
          exact ⟨a :: as, (v1, v2) :: vs, (d1, d2) :: pq, rfl, rfl, .cons ha h1, .cons t1 h2, .cons t2 h3⟩
theorem paired_get {α β : Type} {F : α → β → Prop} : ∀ {l : List α} {k : List β} {i : Nat} {a : α}, Paired F l k → l[i]? = some a → ∃ b, k[i]? = some b ∧ F a b
  | _, _, i, _, .nil, h => by simp at h
  | _, _, 0, _, .cons x _, h => by cases h; exact ⟨_, rfl, x⟩
  | _, _, i + 1, _, .cons _ r, h => paired_get (i := i) r (by simpa using h)
theorem pq_zip : ∀ {pq : List (D × D)} {ns ms : List Int}, pq.map Prod.fst = ns.map .int → pq.map Prod.snd = ms.map .int → pq = (ns.zip ms).map (fun p => (D.int p.1, D.int p.2)) ∧ ns.length = ms.length
  | [], ns, ms, h1, h2 => by
    have e1 : ns = [] := List.map_eq_nil_iff.mp h1.symm
    have e2 : ms = [] := List.map_eq_nil_iff.mp h2.symm
    subst e1 e2
    exact ⟨rfl, rfl⟩
  | r :: pq, [], ms, h1, h2 => by cases h1
  | r :: pq, n :: ns, [], h1, h2 => by cases h2
  | r :: pq, n :: ns, m :: ms, h1, h2 => by
    injection h1 with a1 a2
    injection h2 with b1 b2
    obtain ⟨e, l⟩ := pq_zip a2 b2
    refine ⟨?_, by simp [l]⟩
    rw [List.zip_cons_cons, List.map_cons, ← e]
    congr 1
    exact Prod.ext a1 b1
theorem pD_fst {pq : List (D × D)} {ps : List (Int × Int)} (e : (pq.map fun r => D.tup [r.1, r.2]) = ps.map pD) : pq.map Prod.fst = (ps.map (·.1)).map .int ∧ pq.map Prod.snd = (ps.map (·.2)).map .int := by
  constructor
  · have := congrArg (List.map fun d : D => match d with | .tup (x :: _) => x | _ => .oth) e
    rw [List.map_map, List.map_map] at this
    rw [List.map_map]
    exact this
  · have := congrArg (List.map fun d : D => match d with | .tup (_ :: y :: _) => y | _ => .oth) e
    rw [List.map_map, List.map_map] at this
    rw [List.map_map]
    exact this
/-- the dict of flags under these numbers -/
def kvsOf (ms : List Int) : List (Key × V) := ms.foldl (fun k m => putK k (.inl m) (.bl true)) []
theorem kvsOf_snoc (ms : List Int) (m : Int) : kvsOf (ms ++ [m]) = putK (kvsOf ms) (.inl m) (.bl true) := by
  unfold kvsOf
  rw [List.foldl_append]
  rfl
theorem putK_any {kvs : List (Key × V)} {k x : Key} {v : V} : ((putK kvs k v).any fun kv => decide (kv.1 = x)) = ((kvs.any fun kv => decide (kv.1 = x)) || decide (k = x)) := by
  unfold putK
  by_cases c : (kvs.any fun kv => decide (kv.1 = k)) = true
  · rw [if_pos c, List.any_map]
    have e : ((fun kv : Key × V => decide (kv.1 = x)) ∘ fun kv => if kv.1 = k then (kv.1, v) else kv) = fun kv : Key × V => decide (kv.1 = x) := by
      funext kv
      show decide ((if kv.1 = k then (kv.1, v) else kv).1 = x) = _
      by_cases z : kv.1 = k
      · rw [if_pos z]
      · rw [if_neg z]
    rw [e]
    by_cases z : k = x
    · subst z
      rw [c]; rfl
    · rw [decide_eq_false z, Bool.or_false]
  · rw [if_neg c, List.any_append]
    congr 1
    simp
theorem snoc_ind {α : Type} {P : List α → Prop} (h0 : P []) (h1 : ∀ l x, P l → P (l ++ [x])) (l : List α) : P l := by
  rw [← List.reverse_reverse l]
  induction l.reverse with
  | nil => exact h0
  | cons x r ih => rw [List.reverse_cons]; exact h1 _ _ ih
theorem kvsOf_mem (m : Int) : ∀ (ms : List Int), ((kvsOf ms).any fun kv => decide (kv.1 = Sum.inl m)) = decide (m ∈ ms) := by
  refine snoc_ind rfl fun ms x ih => ?_
  · rw [kvsOf_snoc, putK_any, ih]
    by_cases h1 : m ∈ ms
    · simp [h1]
    · by_cases h2 : x = m
      · subst h2; simp
      · have h3 : ¬ m = x := fun z => h2 z.symm
        have h4 : ¬ (Sum.inl x : Key) = Sum.inl m := fun z => h2 (by injection z)
        simp [h1, h3, h4]
theorem kvsOf_len : ∀ ms : List Int, (kvsOf ms).length ≤ ms.length ∧ ((kvsOf ms).length = ms.length ↔ ms.Nodup) := by
  refine snoc_ind ⟨Nat.le_refl _, by simp [kvsOf]⟩ fun ms x ih => ?_
  · obtain ⟨h1, h2⟩ := ih
    rw [kvsOf_snoc]
    have hm := kvsOf_mem x ms
    unfold putK
    by_cases c : x ∈ ms
    · rw [if_pos (by rw [hm]; exact decide_eq_true c), List.length_map, List.length_append]
      refine ⟨by simp; omega, ⟨fun z => ?_, fun z => ?_⟩⟩
      · simp at z; omega
      · rw [List.nodup_append] at z
        exact absurd rfl (z.2.2 x c x (by simp))
    · rw [if_neg (by rw [hm, decide_eq_false c]; exact Bool.false_ne_true), List.length_append, List.length_append]
      refine ⟨by simp; omega, ⟨fun z => ?_, fun z => ?_⟩⟩
      · simp at z
        rw [List.nodup_append]
        refine ⟨h2.mp z, by simp, fun a ha b hb e => ?_⟩
        simp at hb
        subst hb
        exact c (e ▸ ha)
      · rw [List.nodup_append] at z
        simp
        exact h2.mpr z.1
theorem decI {i j : Int} : decide (V.int i = V.int j) = decide (i = j) := by
  by_cases h : i = j
  · rw [h]; simp
  · rw [decide_eq_false h, decide_eq_false fun z => h (by injection z)]
def spPairs (K : PySem.W.Frag) : Sp := fun vs H Q _ => ∃ (m o : Nat) (x : V) (d : D), vs = [.int (m : Int), .int (o : Int), x] ∧ TD K H x d ∧ ∀ (bb : Bool) (H' : Hp), (bb = true ↔ PairsP (m : Int) (o : Int) d) → Ext H H' → Q (.bl bb) H'
section
variable {P : Program} {w : World} {K : PySem.W.Frag} {mg : Str → Option Value} {base : Heap}
abbrev pairsN : List Str := ["many", "others", "thing", "pair"]
theorem scPairs : FnScope pairsN ["many", "others", "thing"] (defScope sPairs) := ⟨rfl, rfl, rfl, by decide +kernel, rfl, by decide +kernel, by decide +kernel⟩
theorem ok_pairs {f : Addr} {fd : FuncData} (F : L2.Fun K "is_pairs" "is_pairs" sPairs f fd) (T : Gb mg) (cN : Cal P w K mg base 2 "is_number" (spNumber K) []) (cA : Cal P w K mg base 3 "is_ascending" (spAsc K) []) : FnOk P w K mg base CX0 4 f fd ["many", "others", "thing"] (spPairs K) := by
  refine F.ok scPairs (fun vs H Q E h => ?_) (fun cdv A outer s H vs Q E hr h => ?_)
  · obtain ⟨m, o, x, d, rfl, _⟩ := h
    rfl
  · obtain ⟨m, o, x, d, rfl, td, k⟩ := h
    obtain ⟨t, ty, kt⟩ := td_isT td
    refine ⟨_, pss_cons (ps_if (pt_not (pt_val (pe_callB call_isi (by rfl) T.isi (by decide +kernel) (pa_cons (pv 2) (pa_cons (pe_bltn (v := .ty "tuple") (by rfl) T.tup (by decide +kernel) rfl) pa_nil))))) (pss_one (ps_ret pe_bl)) pss_nil)
      (pss_cons (ps_if (pt_not (pt_val (pe_callB (cr_all rfl) (by rfl) T.all (by decide +kernel) (pa_cons (pe_lc (own := [("pair", 3)]) (g := gName 3) (tt := tYes) rfl scPairs.nd (pi_tup (pv 2)) (blkOk_by (N := pairsN) (sc := defScope sPairs) (by decide +kernel)) (fun _ _ _ _ _ => (pg_name (i := 3) scPairs.nd rfl (Or.inl rfl))) (fun _ _ _ _ _ => pts_nil) (fun _ _ _ _ _ => (pe_and (pe_callB (r := rIsi K) call_isi (by rfl) T.isi (by decide +kernel) (pa_cons (pv 3) (pa_cons (pe_bltn (v := .ty "tuple") (by rfl) T.tup (by decide +kernel) rfl) pa_nil))) (pe_one (pe_cmpR op_eq (pe_callB (r := rLenS K) call_lenS (by rfl) T.len PySem.boot_len (pa_cons (pv 3) pa_nil)) pe_int (nomark _)))))) pa_nil)))) (pss_one (ps_ret pe_bl)) pss_nil)
      (pss_cons (ps_if (pt_not (pt_val (C8.pe_c cA hr (by decide) (by rfl) (pa_cons (pe_op op_sub (pv 0) pe_int) (pa_cons (pe_callTy call_tuple_of (by rfl) T.tup (by decide +kernel) (pa_cons (pe_lc (own := [("pair", 3)]) (g := gName 3) (tt := tYes) rfl scPairs.nd (pi_tup (pv 2)) (blkOk_by (N := pairsN) (sc := defScope sPairs) (by decide +kernel)) (fun _ _ _ _ _ => (pg_name (i := 3) scPairs.nd rfl (Or.inl rfl))) (fun _ _ _ _ _ => pts_nil) (fun _ _ _ _ _ => (pe_ix (r := rIxT K) ix_tup (pv 3) pe_int (fun _ _ => rfl)))) pa_nil)) pa_nil))))) (pss_one (ps_ret pe_bl)) pss_nil)
      (pss_cons (ps_if (pt_not (pt_val (pe_callB (cr_all rfl) (by rfl) T.all (by decide +kernel) (pa_cons (pe_lc (own := [("pair", 3)]) (g := gName 3) (tt := tYes) rfl scPairs.nd (pi_tup (pv 2)) (blkOk_by (N := pairsN) (sc := defScope sPairs) (by decide +kernel)) (fun _ _ _ _ _ => (pg_name (i := 3) scPairs.nd rfl (Or.inl rfl))) (fun _ _ _ _ _ => pts_nil) (fun _ _ _ _ _ => (C8.pe_c cN hr (by decide) (by rfl) (pa_cons (pe_op op_sub (pv 1) pe_int) (pa_cons (pe_ix (r := rIxT K) ix_tup (pv 3) pe_int (fun _ _ => rfl)) pa_nil))))) pa_nil)))) (pss_one (ps_ret pe_bl)) pss_nil)
      (pss_one (ps_ret (pe_cmpR op_eq (pe_callB call_lenD (by rfl) T.len PySem.boot_len (pa_cons (pe_dc (own := [("pair", 3)]) (g := gName 3) (tt := tYes) rfl scPairs.nd (pi_tup (pv 2)) (blkOk_by (N := pairsN) (sc := defScope sPairs) (by decide +kernel)) (fun _ _ _ _ _ => (pg_name (i := 3) scPairs.nd rfl (Or.inl rfl))) (fun _ _ _ _ _ => pts_nil) (fun _ _ _ _ _ => (pe_ix (r := rIxT K) ix_tup (pv 3) pe_int (fun _ _ => rfl))) (fun _ _ _ _ _ => pe_bl)) pa_nil)) (pe_callB call_len_seq (by rfl) T.len PySem.boot_len (pa_cons (pv 2) pa_nil)) (nomark _))))))), ?_⟩
    cases hd : isT d with
    | false =>
      rw [hd] at kt
      refine ⟨_, rfl, x, .ty "tuple", t, .type "tuple", _, rfl, .ty _, ty, kt, _, rfl, ?_⟩
      exact iteT (k false H ⟨fun z => Bool.noConfusion z, fun ⟨ns, e, _⟩ => by rw [e] at hd; cases hd⟩ Ext.rfl')
    | true =>
      rw [hd] at kt
      cases td with
      | tup ha len ts =>
        rename_i a xs ds
        refine ⟨_, rfl, _, .ty "tuple", t, .type "tuple", _, rfl, .ty _, ty, kt, _, rfl, ?_⟩
        refine iteF ?_
        have ld := ts.len
        refine ⟨_, rfl, a, rfl, ⟨_, SqT.of ha⟩, fun D nD => ?_⟩
        refine lc_gen (p := fun _ => true) walk_tup nD len (fun i y _ => y = V.bl (two (ds.getD i .oth))) (fun _ _ _ _ _ z => z) (fun H' e => SqT.of (e _ _ ha)) ?_ ?_
        · rintro i y H1 H' R N hi e1 ⟨rfl, hy⟩ hR _
          obtain ⟨d, hd, tdd⟩ := ts.get hy
          have tdd := tdd.ext e1
          have hv : ds.getD i .oth = d := by rw [List.getD_eq_getElem?_getD, hd]; rfl
          have hR : ∀ H4, Ext H' H4 → R (V.bl (two d)) H4 := fun H4 e => hR rfl _ H4 e (by rw [hv])
          obtain ⟨t2, ty2, kt2⟩ := td_isT tdd
          refine ⟨rfl, tyes_in ⟨_, rfl, y, .ty "tuple", t2, .type "tuple", _, rfl, .ty _, ty2, kt2, _, rfl, ?_⟩⟩
          cases hd2 : isT d with
          | false =>
            have e2 : two d = false := by cases d <;> first | rfl | cases hd2
            rw [e2] at hR
            exact iteF (hR H' Ext.rfl')
          | true =>
            cases tdd with
            | tup hb lb tsb =>
              rename_i b ys es
              refine iteT ⟨_, rfl, b, ys, rfl, .inr (SqT.of hb), rfl, ?_⟩
              have e2 : two (.tup es) = decide (V.int (ys.length : Int) = V.int 2) := by
                rw [two_len, decI, ← tsb.len]
                exact decide_eq_decide.mpr (by omega)
              rw [e2] at hR
              exact hR H' Ext.rfl'
            | _ => cases hd2
        · intro ys H1 e1 hD pr
          have ey := flags_of (t := fun i => two (ds.getD i .oth)) pr
          subst ey
          have fl := range_map two B46.D.oth ld
          rw [fl] at hD
          cases b1 : (ds.map two).all id with
          | false =>
            refine ⟨D, _, rfl, SqL.of hD, false, congrArg V.bl b1, ?_⟩
            refine iteT (k false H1 ⟨fun z => Bool.noConfusion z, fun ⟨ps, e, _⟩ => ?_⟩ e1)
            injection e with e
            subst e
            have : (List.map two (ps.map pD)).all id = true := List.all_eq_true.mpr fun b hb => by
              obtain ⟨y, hy, rfl⟩ := List.mem_map.mp hb
              obtain ⟨n, hn, rfl⟩ := List.mem_map.mp hy
              rfl
            rw [this] at b1
            cases b1
          | true =>
            refine ⟨D, _, rfl, SqL.of hD, true, congrArg V.bl b1, ?_⟩
            refine iteF ?_
            obtain ⟨as, vs, pq, rfl, rfl, pv, t1, t2⟩ := split2 ts fun d hd => List.all_eq_true.mp b1 (two d) (List.mem_map_of_mem hd)
            have ha1 := e1 _ _ ha
            have lav : as.length = vs.length := Paired.length pv
            have lvp : vs.length = pq.length := by have := t1.len; rwa [List.length_map, List.length_map] at this
            have la : as.length ≤ 1000 := by rwa [List.length_map] at len
            have td1 : TD K H1 (.ref a) (.tup (pq.map fun r => .tup [r.1, r.2])) := (TD.tup ha len ts).ext e1
            have pv1 : Paired (fun a v => H1 a = some (.tup [v.1, v.2])) as vs := Paired.imp' (fun _ _ z => e1 _ _ z) pv
            have t1' := t1.ext e1
            have t2' := t2.ext e1
            -- the first ones ascend
            refine ⟨_, rfl, _, _, rfl, rfl, _, rfl, a, rfl, ⟨_, SqT.of ha1⟩, fun D2 nD2 => ?_⟩
            refine lc_gen (p := fun _ => true) walk_tup nD2 len (fun i y _ => y = (vs.getD i (.non, .non)).1) (fun _ _ _ _ _ z => z) (fun H' e => SqT.of (e _ _ ha1)) ?_ ?_
            · rintro i y H2 H' R N hi e2 ⟨rfl, hy⟩ hR _
              obtain ⟨b, hb, rfl⟩ := ref_get hy
              obtain ⟨v, hv, hbt⟩ := paired_get pv1 hb
              refine ⟨rfl, tyes_in ⟨_, rfl, b, _, 0, v.1, rfl, rfl, SqT.of (e2 _ _ hbt), rfl, ?_⟩⟩
              exact hR rfl _ H' Ext.rfl' (by rw [List.getD_eq_getElem?_getD, hv]; rfl)
            · intro ys H2 e2 hD2 pr2
              have ey := vals_of (f := fun i => (vs.getD i (.non, .non)).1) pr2
              rw [List.filter_eq_self.mpr fun _ _ => rfl, range_map Prod.fst (V.non, V.non) (by rw [List.length_map, lav])] at ey
              subst ey
              refine ⟨D2, _, rfl, .inl ⟨SqL.of hD2, fun t3 nt3 => ?_⟩⟩
              have x3 := Ext.upd (o := .tup (vs.map Prod.fst)) nt3
              have e3 := e2.trans x3
              have t3' : TD K (upd H2 t3 (.tup (vs.map Prod.fst))) (.ref t3) (.tup (pq.map Prod.fst)) := .tup upd_same (by rw [List.length_map]; omega) (t1'.ext e3)
              refine ⟨(m : Int) - 1, _, _, rfl, t3', fun bb H4 hbb e4 => ⟨_, rfl, ?_⟩⟩
              have e14 := e3.trans e4
              have e04 := e1.trans e14
              cases bb with
              | false =>
                refine iteT (k false H4 ⟨fun z => Bool.noConfusion z, fun ⟨ps, e, h1, h2, h3⟩ => ?_⟩ e04)
                injection e with e
                refine hbb.mpr ⟨ps.map (·.1), congrArg _ (pD_fst e).1, fun n hn => ?_, h2⟩
                · obtain ⟨q, hq, rfl⟩ := List.mem_map.mp hn
                  have := (h1 q hq).1
                  omega
              | true =>
                refine iteF ?_
                obtain ⟨ns, en, ns1, ns2⟩ := hbb.mp rfl
                injection en with en
                have ha4 := e14 _ _ ha1
                have pv4 : Paired (fun a v => H4 a = some (.tup [v.1, v.2])) as vs := Paired.imp' (fun _ _ z => e14 _ _ z) pv1
                have t24 := t2'.ext e14
                refine ⟨_, rfl, a, rfl, ⟨_, SqT.of ha4⟩, fun D3 nD3 => ?_⟩
                refine lc_gen (p := fun _ => true) walk_tup nD3 len (fun i y _ => y = V.bl (numD ((o : Int) - 1) (pq.getD i (.oth, .oth)).2)) (fun _ _ _ _ _ z => z) (fun H' e => SqT.of (e _ _ ha4)) ?_ ?_
                · rintro i y H5 H' R N hi e5 ⟨rfl, hy⟩ hR _
                  obtain ⟨b, hb, rfl⟩ := ref_get hy
                  obtain ⟨v, hv, hbt⟩ := paired_get pv4 hb
                  have hv2 : (vs.map (·.2))[i]? = some v.2 := by rw [List.getElem?_map, hv]; rfl
                  obtain ⟨d2, hd2, td2⟩ := t24.get hv2
                  rw [List.getElem?_map] at hd2
                  cases hq : pq[i]? with
                  | none => rw [hq] at hd2; cases hd2
                  | some r =>
                    rw [hq] at hd2
                    cases hd2
                    have hR := hR rfl (V.bl (numV ((o : Int) - 1) v.2)) H' Ext.rfl' (by rw [List.getD_eq_getElem?_getD, hq, num_td td2]; rfl)
                    refine ⟨rfl, tyes_in ⟨_, rfl, _, _, rfl, rfl, _, rfl, b, _, 1, v.2, rfl, rfl, SqT.of (e5 _ _ hbt), rfl, _, _, rfl, TD.th (td2.ext e5), ?_⟩⟩
                    exact hR
                · intro ys H5 e5 hD5 pr5
                  have ey := flags_of (t := fun i => numD ((o : Int) - 1) (pq.getD i (.oth, .oth)).2) pr5
                  rw [range_map (fun r : B46.D × B46.D => numD ((o : Int) - 1) r.2) (B46.D.oth, B46.D.oth) (by rw [List.length_map, lav, lvp])] at ey
                  subst ey
                  have e05 := e04.trans e5
                  cases b5 : (pq.map fun r : B46.D × B46.D => numD ((o : Int) - 1) r.2).all id with
                  | false =>
                    refine ⟨D3, _, rfl, SqL.of hD5, false, congrArg V.bl b5, ?_⟩
                    refine iteT (k false H5 ⟨fun z => Bool.noConfusion z, fun ⟨ps, e, h1, h2, h3⟩ => ?_⟩ e05)
                    injection e with e
                    have e2 := (pD_fst e).2
                    have : (pq.map fun r : B46.D × B46.D => numD ((o : Int) - 1) r.2).all id = true := by
                      have e3 : (pq.map fun r : B46.D × B46.D => numD ((o : Int) - 1) r.2) = (pq.map Prod.snd).map (numD ((o : Int) - 1)) := by rw [List.map_map]; rfl
                      rw [e3, e2]
                      refine List.all_eq_true.mpr fun b hb => ?_
                      obtain ⟨y, hy, rfl⟩ := List.mem_map.mp hb
                      obtain ⟨n, hn, rfl⟩ := List.mem_map.mp hy
                      obtain ⟨q, hq, rfl⟩ := List.mem_map.mp hn
                      have := (h1 q hq).2
                      exact numD_true.mpr ⟨_, rfl, this.1, by omega⟩
                    rw [this] at b5
                    cases b5
                  | true =>
                    refine ⟨D3, _, rfl, SqL.of hD5, true, congrArg V.bl b5, ?_⟩
                    refine iteF ?_
                    obtain ⟨ms, em, ms1⟩ := low_ints (m := (o : Int) - 1) (ds := pq.map Prod.snd) fun y hy => by
                      obtain ⟨r, hr, rfl⟩ := List.mem_map.mp hy
                      exact List.all_eq_true.mp b5 _ (List.mem_map.mpr ⟨r, hr, rfl⟩)
                    obtain ⟨ez, el⟩ := pq_zip en em
                    have evm : vs.map (·.2) = ms.map V.int := by
                      have t2m : TDs K H1 (vs.map (·.2)) (ms.map .int) := by
                        have := t2'
                        rw [show pq.map (fun x => x.2) = ms.map B46.D.int from em] at this
                        exact this
                      exact ints_td t2m
                    have ha5 := e5 _ _ ha4
                    have lm : ms.length = as.length := by
                      have := congrArg List.length evm
                      rw [List.length_map, List.length_map] at this
                      omega
                    refine ⟨_, rfl, a, rfl, ⟨_, SqT.of ha5⟩, fun D4 nD4 => ?_⟩
                    have nD4a : a ≠ D4 := ne_of_none ha5 nD4
                    refine dc_tup (K := K) (a := a) (xs := as.map V.ref) (fun i H' => H' = upd H5 D4 (.dK (kvsOf (ms.take i)))) rfl (fun i H' _ z => by rw [z]; exact SqT.of (Ext.upd nD4 _ _ ha5)) ?_ ?_
                    · rintro i y H' hy rfl
                      obtain ⟨b, hb, rfl⟩ := ref_get hy
                      obtain ⟨v, hv, hbt⟩ := paired_get pv4 hb
                      have hv2 : (vs.map (·.2))[i]? = some v.2 := by rw [List.getElem?_map, hv]; rfl
                      rw [evm] at hv2
                      obtain ⟨n, hn, hvn⟩ := map_int_get hv2
                      have hbt6 := Ext.upd (o := .dK (kvsOf (ms.take i))) nD4 _ _ (e5 _ _ hbt)
                      have lt := (kvsOf_len (ms.take i)).1
                      have lt2 := List.length_take_le i ms
                      have li : i ≤ 1000 := by have := (List.getElem?_eq_some_iff.mp hb).1; omega
                      rw [List.length_take] at lt
                      refine ⟨rfl, tyes_in ⟨_, rfl, b, _, 1, v.2, rfl, rfl, SqT.of hbt6, rfl, kvsOf (ms.take i), .inl n, hvn, upd_same, small1000 (by omega), ?_⟩⟩
                      rw [upd_upd, List.take_succ, hn]
                      exact congrArg (fun k => upd H5 D4 (.dK k)) (kvsOf_snoc (ms.take i) n).symm
                    · rintro H' rfl
                      have e6 := Ext.upd (o := .dK (kvsOf (ms.take (as.map V.ref).length))) nD4
                      refine ⟨D4, _, rfl, upd_same, _, rfl, a, _, rfl, .inr (SqT.of (e6 _ _ ha5)), rfl, ?_⟩
                      refine k _ _ ?_ (e05.trans e6)
                      rw [List.length_map, ← lm, List.take_of_length_le (Nat.le_refl _), decI, decide_eq_true_iff]
                      have kl := kvsOf_len ms
                      constructor
                      · intro z
                        have nd := kl.2.mp (by omega)
                        refine ⟨ns.zip ms, ?_, fun p hp => ?_, ?_, ?_⟩
                        · rw [ez, List.map_map]
                          rfl
                        · obtain ⟨h1, h2⟩ := List.of_mem_zip hp
                          have := ns1 _ h1
                          have := ms1 _ h2
                          omega
                        · rw [List.map_fst_zip (by omega)]
                          exact ns2
                        · rw [List.map_snd_zip (by omega)]
                          exact nd
                      · rintro ⟨ps, e, _, _, h3⟩
                        injection e with e
                        have e2 := (pD_fst e).2
                        rw [em] at e2
                        rw [← dint_inj e2] at h3
                        have := kl.2.mpr h3
                        omega
      | _ => cases hd
end
end B46

set_option Elab.async false
set_option linter.all false
set_option maxRecDepth 100000
set_option maxHeartbeats 4000000
set_option pp.maxSteps 60
/-! What a pairing is: the program's judge. -/
namespace B46
open PySem L2
abbrev sPairing : Stmt := top 20
def CovP (L : List Bar) (e : Int) (ks : List Int) : Prop := ∀ (n : Nat) (b : Bar), L[n]? = some b → shortB b e = false → (n : Int) ∈ ks
def FitP (L M : List Bar) (e : Int) (p : Int × Int) : Prop := fitB (L.getD p.1.toNat (0, none)) (M.getD p.2.toNat (0, none)) e = true
/-- a pairing within e -/
structure Pairing (L M : List Bar) (e : Int) (ps : List (Int × Int)) : Prop where
  bd : ∀ p ∈ ps, (0 ≤ p.1 ∧ p.1 < (L.length : Int)) ∧ 0 ≤ p.2 ∧ p.2 < (M.length : Int)
  asc : (ps.map (·.1)).Pairwise (· < ·)
  nd : (ps.map (·.2)).Nodup
  fit : ∀ p ∈ ps, FitP L M e p
  c1 : CovP L e (ps.map (·.1))
  c2 : CovP M e (ps.map (·.2))
def PairP (L M : List Bar) (e : Int) (d : D) : Prop := ∃ ps, d = .tup (ps.map pD) ∧ Pairing L M e ps
theorem pD_inj : ∀ {ps qs : List (Int × Int)}, ps.map pD = qs.map pD → ps = qs
  | [], [], _ => rfl
  | p :: ps, q :: qs, h => by
    injection h with h1 h2
    unfold pD at h1
    injection h1 with h1
    injection h1 with h3 h4
    injection h4 with h4 _
    injection h3 with h3
    injection h4 with h4
    rw [pD_inj h2]
    congr 1
    exact Prod.ext h3 h4
  | [], q :: qs, h => by cases h
  | p :: ps, [], h => by cases h
/-- tuples of two ints at their places -/
abbrev PT (S : Hp) (as : List Addr) (ps : List (Int × Int)) : Prop := Paired (fun a p => S a = some (.tup [.int p.1, .int p.2])) as ps
theorem PT.of {K : PySem.W.Frag} {H : Hp} : ∀ {ps : List (Int × Int)} {xs : List V}, TDs K H xs (ps.map pD) → ∃ as, xs = as.map V.ref ∧ PT H as ps
  | [], _, .nil => ⟨[], rfl, .nil⟩
  | p :: ps, _, .cons a r => by
    obtain ⟨as, rfl, h⟩ := PT.of r
    cases a with
    | @tup c ys _ ha hl ts =>
      cases ts with
      | cons t1 ts =>
        cases ts with
        | cons t2 ts =>
          cases ts
          cases t1
          cases t2
          exact ⟨c :: as, rfl, .cons ha h⟩
theorem PT.mono {S S' : Hp} {as : List Addr} {ps : List (Int × Int)} (e : TExt S S') (h : PT S as ps) : PT S' as ps := Paired.imp' (fun _ _ z => e _ _ z) h
theorem PT.td {K : PySem.W.Frag} {S : Hp} : ∀ {as : List Addr} {ps : List (Int × Int)}, PT S as ps → TDs K S (as.map V.ref) (ps.map pD)
  | _, _, .nil => .nil
  | _, _, .cons h r => .cons (.tup h (by show 2 ≤ 1000; decide) (.cons (.int _) (.cons (.int _) .nil))) (PT.td r)
theorem inV_ints (p : Int) : ∀ ps : List Int, inV (.int p) (ps.map V.int) = decide (p ∈ ps)
  | [] => by simp [inV]
  | q :: ps => by
    have ih := inV_ints p ps
    unfold inV at ih ⊢
    rw [List.map_cons, List.any_cons, ih]
    by_cases h : q = p
    · subst h; simp [eqV]
    · have h' : ¬ p = q := fun z => h z.symm
      simp [eqV, h, h']
theorem flat_ints (ps : List Int) : (ps.map V.int).all flatV = true := List.all_eq_true.mpr fun x hx => by
  obtain ⟨n, _, rfl⟩ := List.mem_map.mp hx
  rfl
def spPairing (K : PySem.W.Frag) : Sp := fun vs H Q _ => ∃ (o1 o2 : Addr) (L M : List Bar) (e : Int) (x : V) (d : D), vs = [.ref o1, .ref o2, .int e, x] ∧ BL H o1 L ∧ BL H o2 M ∧ Right L ∧ Right M ∧ 0 ≤ e ∧ e ≤ 2000 ∧ TD K H x d ∧ ∀ (bb : Bool) (H' : Hp), (bb = true ↔ PairP L M e d) → Ext H H' → Q (.bl bb) H'
section
variable {P : Program} {w : World} {K : PySem.W.Frag} {mg : Str → Option Value} {base : Heap}
abbrev pairingN : List Str := ["one", "other", "e", "thing", "numbers", "partners", "number", "partner"]
theorem scPairing : FnScope pairingN ["one", "other", "e", "thing"] (defScope sPairing) := ⟨rfl, rfl, rfl, by decide +kernel, rfl, by decide +kernel, by decide +kernel⟩
theorem ok_pairing {f : Addr} {fd : FuncData} (F : L2.Fun K "is_pairing" "is_pairing" sPairing f fd) (T : Gb mg) (cDe : Cal P w K mg base 5 "demand_both" spDem2 []) (cPs : Cal P w K mg base 4 "is_pairs" (spPairs K) []) (cF : Cal P w K mg base 1 "fit" spFit []) (cL : Cal P w K mg base 2 "long_numbers" spLong []) : FnOk P w K mg base CX0 6 f fd ["one", "other", "e", "thing"] (spPairing K) := by
  refine F.ok scPairing (fun vs H Q E h => ?_) (fun cdv A outer s H vs Q E hr h => ?_)
  · obtain ⟨o1, o2, L, M, e, x, d, rfl, _⟩ := h
    rfl
  · obtain ⟨o1, o2, L, M, e, x, d, rfl, b1, b2, rL, rM, e0, e1, td, k⟩ := h
    refine ⟨_, pss_cons (ps_expr (C8.pe_c cDe hr (by decide) (by rfl) (pa_cons (pv 0) (pa_cons (pv 1) (pa_cons (pv 2) pa_nil)))))
      (pss_cons (ps_if (pt_not (pt_val (C8.pe_c cPs hr (by decide) (by rfl) (pa_cons (pe_callB call_len_seq (by rfl) T.len PySem.boot_len (pa_cons (pv 0) pa_nil)) (pa_cons (pe_callB call_len_seq (by rfl) T.len PySem.boot_len (pa_cons (pv 1) pa_nil)) (pa_cons (pv 3) pa_nil)))))) (pss_one (ps_ret pe_bl)) pss_nil)
      (pss_cons (ps_if (pt_not (pt_val (pe_callB (cr_all rfl) (by rfl) T.all (by decide +kernel) (pa_cons (pe_lc (own := [("number", 6), ("partner", 7)]) (g := gTup K 2 (gCons (gName 6) (gCons (gName 7) gNil))) (tt := tYes) rfl scPairing.nd (pi_tup (pv 3)) (blkOk_by (N := pairingN) (sc := defScope sPairing) (by decide +kernel)) (fun _ _ _ _ _ => (pg_tup rfl (pgs_cons (pg_name (i := 6) scPairing.nd rfl (Or.inl rfl)) (pgs_cons (pg_name (i := 7) scPairing.nd rfl (Or.inl rfl)) pgs_nil)))) (fun _ _ _ _ _ => pts_nil) (fun _ _ _ _ _ => (C8.pe_c cF hr (by decide) (by rfl) (pa_cons (pe_ix (r := rIxL K) ix_list (pv 0) (pv 6) (fun _ _ => rfl)) (pa_cons (pe_ix (r := rIxL K) ix_list (pv 1) (pv 7) (fun _ _ => rfl)) (pa_cons (pv 2) pa_nil)))))) pa_nil)))) (pss_one (ps_ret pe_bl)) pss_nil)
      (pss_cons (ps_set (i := 4) scPairing.nd rfl (Or.inr rfl) (pe_lc (own := [("number", 6), ("partner", 7)]) (g := gTup K 2 (gCons (gName 6) (gCons (gName 7) gNil))) (tt := tYes) rfl scPairing.nd (pi_tup (pv 3)) (blkOk_by (N := pairingN) (sc := defScope sPairing) (by decide +kernel)) (fun _ _ _ _ _ => (pg_tup rfl (pgs_cons (pg_name (i := 6) scPairing.nd rfl (Or.inl rfl)) (pgs_cons (pg_name (i := 7) scPairing.nd rfl (Or.inl rfl)) pgs_nil)))) (fun _ _ _ _ _ => pts_nil) (fun _ _ _ _ _ => (pv 6))))
      (pss_cons (ps_set (i := 5) scPairing.nd rfl (Or.inr rfl) (pe_lc (own := [("number", 6), ("partner", 7)]) (g := gTup K 2 (gCons (gName 6) (gCons (gName 7) gNil))) (tt := tYes) rfl scPairing.nd (pi_tup (pv 3)) (blkOk_by (N := pairingN) (sc := defScope sPairing) (by decide +kernel)) (fun _ _ _ _ _ => (pg_tup rfl (pgs_cons (pg_name (i := 6) scPairing.nd rfl (Or.inl rfl)) (pgs_cons (pg_name (i := 7) scPairing.nd rfl (Or.inl rfl)) pgs_nil)))) (fun _ _ _ _ _ => pts_nil) (fun _ _ _ _ _ => (pv 7))))
      (pss_cons (ps_if (pt_not (pt_val (pe_callB (cr_all rfl) (by rfl) T.all (by decide +kernel) (pa_cons (pe_lc (own := [("number", 6)]) (g := gName 6) (tt := tYes) rfl scPairing.nd (pi_list (C8.pe_c cL hr (by decide) (by rfl) (pa_cons (pv 0) (pa_cons (pv 2) pa_nil)))) (blkOk_by (N := pairingN) (sc := defScope sPairing) (by decide +kernel)) (fun _ _ _ _ _ => (pg_name (i := 6) scPairing.nd rfl (Or.inl rfl))) (fun _ _ _ _ _ => pts_nil) (fun _ _ _ _ _ => (pe_cmpR (r := rIn K false) op_in_seq (pv 6) (pv 4) (by rfl)))) pa_nil)))) (pss_one (ps_ret pe_bl)) pss_nil)
      (pss_one (ps_ret (pe_callB (cr_all rfl) (by rfl) T.all (by decide +kernel) (pa_cons (pe_lc (own := [("number", 6)]) (g := gName 6) (tt := tYes) rfl scPairing.nd (pi_list (C8.pe_c cL hr (by decide) (by rfl) (pa_cons (pv 1) (pa_cons (pv 2) pa_nil)))) (blkOk_by (N := pairingN) (sc := defScope sPairing) (by decide +kernel)) (fun _ _ _ _ _ => (pg_name (i := 6) scPairing.nd rfl (Or.inl rfl))) (fun _ _ _ _ _ => pts_nil) (fun _ _ _ _ _ => (pe_cmpR (r := rIn K false) op_in_seq (pv 6) (pv 5) (by rfl)))) pa_nil))))))))), ?_⟩
    refine ⟨_, rfl, _, rfl, _, rfl, o1, o2, L, M, e, rfl, b1, b2, rL, rM, e0, e1, fun H1 x1 => ?_⟩
    have b1 := b1.ext x1
    have b2 := b2.ext x1
    have td := td.ext x1
    obtain ⟨as, ho1, bt1⟩ := b1
    obtain ⟨bs, ho2, bt2⟩ := b2
    have la : as.length = L.length := bt1.len
    have lb : bs.length = M.length := bt2.len
    refine ⟨_, rfl, o1, _, rfl, .inl (SqL.of ho1), _, rfl, o2, _, rfl, .inl (SqL.of ho2), _, rfl, L.length, M.length, x, d, by rw [List.length_map, List.length_map, la, lb]; rfl, td, fun bb H2 hbb x2 => ⟨_, rfl, ?_⟩⟩
    have x12 := x1.trans x2
    cases bb with
    | false => exact iteT (k false H2 ⟨fun z => Bool.noConfusion z, fun ⟨ps, e, q⟩ => hbb.mpr ⟨ps, e, q.bd, q.asc, q.nd⟩⟩ x12)
    | true =>
      obtain ⟨ps, rfl, bd, asc, nd⟩ := hbb.mp rfl
      have td2 := td.ext x2
      cases td2 with
      | @tup a xs _ ha len ts =>
        obtain ⟨cs, rfl, pt⟩ := PT.of ts
        have lc : cs.length = ps.length := Paired.length pt
        rw [List.length_map] at len
        refine iteF ?_
        have ho1' := x2 _ _ ho1
        have ho2' := x2 _ _ ho2
        have bt1' : BT H2 as L := bt1.mono fun _ _ z => x2 _ _ z
        have bt2' : BT H2 bs M := bt2.mono fun _ _ z => x2 _ _ z
        refine ⟨_, rfl, a, rfl, ⟨_, SqT.of ha⟩, fun D nD => ?_⟩
        refine lc_gen (p := fun _ => true) walk_tup nD (by rw [List.length_map]; exact len) (fun i y _ => y = V.bl (fitB (L.getD (ps.getD i (0, 0)).1.toNat (0, none)) (M.getD (ps.getD i (0, 0)).2.toNat (0, none)) e)) (fun _ _ _ _ _ z => z) (fun H' e => SqT.of (e _ _ ha)) ?_ ?_
        · rintro i y H3 H' R N hi e3 ⟨rfl, hy⟩ hR _
          obtain ⟨c, hc, rfl⟩ := ref_get hy
          obtain ⟨p, hp, hct⟩ := paired_get pt hc
          have hpm := bd p (List.mem_of_getElem? hp)
          have g1 : as[p.1.toNat]? = some (as[p.1.toNat]'(by omega)) := List.getElem?_eq_getElem _
          have g2 : bs[p.2.toNat]? = some (bs[p.2.toNat]'(by omega)) := List.getElem?_eq_getElem _
          obtain ⟨u, hu, hut⟩ := bt1'.get g1
          obtain ⟨v, hv, hvt⟩ := bt2'.get g2
          have hR := hR rfl (V.bl (fitB u v e)) H' Ext.rfl' (by rw [List.getD_eq_getElem?_getD (l := ps), hp]; show _ = V.bl (fitB (L.getD p.1.toNat _) (M.getD p.2.toNat _) e); rw [List.getD_eq_getElem?_getD, hu, List.getD_eq_getElem?_getD, hv]; rfl)
          have m1 : (as.map V.ref)[p.1.toNat]? = some (.ref (as[p.1.toNat]'(by omega))) := by rw [List.getElem?_map, g1]; rfl
          have m2 : (bs.map V.ref)[p.2.toNat]? = some (.ref (bs[p.2.toNat]'(by omega))) := by rw [List.getElem?_map, g2]; rfl
          refine ⟨c, _, rfl, SqT.of (e3 _ _ hct), rfl, _, _, rfl, _, _, rfl, rfl, rfl, tyes_in ?_⟩
          refine ⟨_, rfl, _, rfl, o1, _, _, _, rfl, rfl, SqL.of (e3 _ _ ho1'), at_of (j := p.1.toNat) (by omega) m1, ?_⟩
          refine ⟨_, rfl, _, rfl, o2, _, _, _, rfl, rfl, SqL.of (e3 _ _ ho2'), at_of (j := p.2.toNat) (by omega) m2, ?_⟩
          exact ⟨_, rfl, _, _, u, v, e, rfl, e3 _ _ hut, e3 _ _ hvt, hR⟩
        · intro ys H3 e3 hD pr
          have ey := flags_of (t := fun i => fitB (L.getD (ps.getD i (0, 0)).1.toNat (0, none)) (M.getD (ps.getD i (0, 0)).2.toNat (0, none)) e) pr
          rw [range_map (fun p : Int × Int => fitB (L.getD p.1.toNat (0, none)) (M.getD p.2.toNat (0, none)) e) (0, 0) (by rw [List.length_map, lc])] at ey
          subst ey
          cases ball : (ps.map fun p : Int × Int => fitB (L.getD p.1.toNat (0, none)) (M.getD p.2.toNat (0, none)) e).all id with
          | false =>
            refine ⟨D, _, rfl, SqL.of hD, false, congrArg V.bl ball, ?_⟩
            refine iteT (k false H3 ⟨fun z => Bool.noConfusion z, fun ⟨qs, eq, q⟩ => ?_⟩ (x12.trans e3))
            injection eq with eq
            rw [← pD_inj eq] at q
            have : (ps.map fun p : Int × Int => fitB (L.getD p.1.toNat (0, none)) (M.getD p.2.toNat (0, none)) e).all id = true := List.all_eq_true.mpr fun b hb => by
              obtain ⟨p, hp, rfl⟩ := List.mem_map.mp hb
              exact q.fit p hp
            rw [this] at ball
            cases ball
          | true =>
            refine ⟨D, _, rfl, SqL.of hD, true, congrArg V.bl ball, ?_⟩
            have fit : ∀ p ∈ ps, FitP L M e p := fun p hp => List.all_eq_true.mp ball _ (List.mem_map.mpr ⟨p, hp, rfl⟩)
            refine iteF ?_
            have ha3 := e3 _ _ ha
            have pt3 : PT H3 cs ps := pt.mono (TExt.of e3)
            -- the numbers of either side
            refine ⟨_, rfl, a, rfl, ⟨_, SqT.of ha3⟩, fun D4 nD4 => ?_⟩
            refine lc_gen (p := fun _ => true) walk_tup nD4 (by rw [List.length_map]; exact len) (fun i y _ => y = V.int (ps.getD i (0, 0)).1) (fun _ _ _ _ _ z => z) (fun H' e => SqT.of (e _ _ ha3)) ?_ ?_
            · rintro i y H4 H' R N hi e4 ⟨rfl, hy⟩ hR _
              obtain ⟨c, hc, rfl⟩ := ref_get hy
              obtain ⟨p, hp, hct⟩ := paired_get pt3 hc
              refine ⟨c, _, rfl, SqT.of (e4 _ _ hct), rfl, _, _, rfl, _, _, rfl, rfl, rfl, tyes_in ⟨_, rfl, ?_⟩⟩
              exact hR rfl _ H' Ext.rfl' (by rw [List.getD_eq_getElem?_getD, hp]; rfl)
            intro ys H4 e4 hD4 pr4
            have ey := vals_of (f := fun i => V.int (ps.getD i (0, 0)).1) pr4
            rw [List.filter_eq_self.mpr fun _ _ => rfl, range_map (fun p : Int × Int => V.int p.1) (0, 0) (by rw [List.length_map, lc])] at ey
            subst ey
            have ha4 := e4 _ _ ha3
            have pt4 : PT H4 cs ps := pt3.mono (TExt.of e4)
            refine ⟨_, rfl, a, rfl, ⟨_, SqT.of ha4⟩, fun D5 nD5 => ?_⟩
            refine lc_gen (p := fun _ => true) walk_tup nD5 (by rw [List.length_map]; exact len) (fun i y _ => y = V.int (ps.getD i (0, 0)).2) (fun _ _ _ _ _ z => z) (fun H' e => SqT.of (e _ _ ha4)) ?_ ?_
            · rintro i y H5 H' R N hi e5 ⟨rfl, hy⟩ hR _
              obtain ⟨c, hc, rfl⟩ := ref_get hy
              obtain ⟨p, hp, hct⟩ := paired_get pt4 hc
              refine ⟨c, _, rfl, SqT.of (e5 _ _ hct), rfl, _, _, rfl, _, _, rfl, rfl, rfl, tyes_in ⟨_, rfl, ?_⟩⟩
              exact hR rfl _ H' Ext.rfl' (by rw [List.getD_eq_getElem?_getD, hp]; rfl)
            intro ys H5 e5 hD5 pr5
            have ey := vals_of (f := fun i => V.int (ps.getD i (0, 0)).2) pr5
            rw [List.filter_eq_self.mpr fun _ _ => rfl, range_map (fun p : Int × Int => V.int p.2) (0, 0) (by rw [List.length_map, lc])] at ey
            subst ey
            have e35 := e3.trans (e4.trans e5)
            have hN : H5 D4 = some (.lst ((ps.map (·.1)).map V.int)) := by
              rw [List.map_map]
              exact e5 _ _ hD4
            have hM : H5 D5 = some (.lst ((ps.map (·.2)).map V.int)) := by
              rw [List.map_map]
              exact hD5
            have bl1 : BL H5 o1 L := ⟨as, e35 _ _ ho1', bt1'.mono fun _ _ z => e35 _ _ z⟩
            have bl2 : BL H5 o2 M := ⟨bs, e35 _ _ ho2', bt2'.mono fun _ _ z => e35 _ _ z⟩
            -- all long ones are there
            refine ⟨_, rfl, _, rfl, o1, L, e, rfl, bl1, by have := rL.1; omega, fun l H6 e6 hl => ⟨l, rfl, ⟨_, SqL.of hl⟩, fun D6 nD6 => ?_⟩⟩
            have cov : ∀ (X : List Bar) (ks : List Int), ((longN X e).map fun n => decide (n ∈ ks)).all id = true ↔ CovP X e ks := fun X ks => by
              rw [List.all_eq_true]
              constructor
              · intro h n b hb hs
                exact of_decide_eq_true (h _ (List.mem_map.mpr ⟨(n : Int), mem_longN.mpr ⟨n, b, rfl, hb, hs⟩, rfl⟩))
              · intro h y hy
                obtain ⟨i, hi, rfl⟩ := List.mem_map.mp hy
                obtain ⟨n, b, rfl, hb, hs⟩ := mem_longN.mp hi
                exact decide_eq_true (h n b hb hs)
            have lln : ∀ X : List Bar, (longN X e).length ≤ X.length := fun X => longIx_len X e X.length
            have l20 : ∀ X : List Bar, Right X → ((longN X e).map V.int).length ≤ 1000 := fun X r => by
              have := lln X
              have := r.1
              rw [List.length_map]
              omega
            refine lc_gen (p := fun _ => true) walk_list nD6 (l20 L rL) (fun i y _ => y = V.bl (decide ((longN L e).getD i 0 ∈ ps.map (·.1)))) (fun _ _ _ _ _ z => z) (fun H' e => SqL.of (e _ _ hl)) ?_ ?_
            · rintro i y H7 H' R N hi e7 ⟨rfl, hy⟩ hR _
              obtain ⟨n, hn, rfl⟩ := map_int_get hy
              refine ⟨rfl, tyes_in ⟨_, rfl, _, rfl, D4, _, rfl, .inl (SqL.of (e7 _ _ (e6 _ _ hN))), rfl, flat_ints _, ?_⟩⟩
              refine hR rfl _ H' Ext.rfl' ?_
              show V.bl (inV (V.int n) ((ps.map (·.1)).map V.int)) = _
              rw [inV_ints, List.getD_eq_getElem?_getD, hn]
              rfl
            intro ys H7 e7 hD7 pr7
            have ey := flags_of (t := fun i => decide ((longN L e).getD i 0 ∈ ps.map (·.1))) pr7
            rw [range_map (fun n : Int => decide (n ∈ ps.map (·.1))) 0 (by rw [List.length_map])] at ey
            subst ey
            have e07 := x12.trans (e35.trans (e6.trans e7))
            cases b7 : ((longN L e).map fun n : Int => decide (n ∈ ps.map (·.1))).all id with
            | false =>
              refine ⟨D6, _, rfl, SqL.of hD7, false, congrArg V.bl b7, ?_⟩
              refine iteT (k false H7 ⟨fun z => Bool.noConfusion z, fun ⟨qs, eq, q⟩ => ?_⟩ e07)
              injection eq with eq
              rw [← pD_inj eq] at q
              rw [(cov L _).mpr q.c1] at b7
              cases b7
            | true =>
              refine ⟨D6, _, rfl, SqL.of hD7, true, congrArg V.bl b7, ?_⟩
              refine iteF ?_
              have e57 := e6.trans e7
              refine ⟨_, rfl, _, rfl, o2, M, e, rfl, bl2.ext e57, by have := rM.1; omega, fun l2 H8 e8 hl2 => ⟨l2, rfl, ⟨_, SqL.of hl2⟩, fun D8 nD8 => ?_⟩⟩
              refine lc_gen (p := fun _ => true) walk_list nD8 (l20 M rM) (fun i y _ => y = V.bl (decide ((longN M e).getD i 0 ∈ ps.map (·.2)))) (fun _ _ _ _ _ z => z) (fun H' e => SqL.of (e _ _ hl2)) ?_ ?_
              · rintro i y H9 H' R N hi e9 ⟨rfl, hy⟩ hR _
                obtain ⟨n, hn, rfl⟩ := map_int_get hy
                refine ⟨rfl, tyes_in ⟨_, rfl, _, rfl, D5, _, rfl, .inl (SqL.of (e9 _ _ (e8 _ _ (e57 _ _ hM)))), rfl, flat_ints _, ?_⟩⟩
                refine hR rfl _ H' Ext.rfl' ?_
                show V.bl (inV (V.int n) ((ps.map (·.2)).map V.int)) = _
                rw [inV_ints, List.getD_eq_getElem?_getD, hn]
                rfl
              intro ys H9 e9 hD9 pr9
              have ey := flags_of (t := fun i => decide ((longN M e).getD i 0 ∈ ps.map (·.2))) pr9
              rw [range_map (fun n : Int => decide (n ∈ ps.map (·.2))) 0 (by rw [List.length_map])] at ey
              subst ey
              refine ⟨D8, _, rfl, SqL.of hD9, ?_⟩
              refine k _ H9 ?_ (e07.trans (e8.trans e9))
              rw [cov M]
              constructor
              · intro c2
                exact ⟨ps, rfl, bd, asc, nd, fit, (cov L _).mp b7, c2⟩
              · rintro ⟨qs, eq, q⟩
                injection eq with eq
                rw [← pD_inj eq] at q
                exact q.c2
end
end B46

set_option Elab.async false
set_option linter.all false
set_option maxRecDepth 100000
set_option maxHeartbeats 4000000
set_option pp.maxSteps 60
/-! What a ban is: the program's judge. -/
namespace B46
open PySem L2
abbrev sBan : Stmt := top 21
def fitsB (B : List Bar) (e : Int) (ns : List Int) (y : Bar) : Bool := (ns.map fun n => fitB (B.getD n.toNat (0, none)) y e).any id
structure BanOk (B O : List Bar) (e : Int) (ns : List Int) : Prop where
  bd : ∀ n ∈ ns, 0 ≤ n ∧ n < (B.length : Int)
  asc : ns.Pairwise (· < ·)
  long : ∀ n ∈ ns, shortB (B.getD n.toNat (0, none)) e = false
  few : (O.filter (fitsB B e ns)).length < ns.length
def BanP (L M : List Bar) (e : Int) (d : D) : Prop := ∃ (s : Int) (ns : List Int), d = .tup [.int s, .tup (ns.map .int)] ∧ (s = 0 ∨ s = 1) ∧ BanOk (if s = 0 then L else M) (if s = 0 then M else L) e ns
theorem filter_len {α : Type} {O : List α} {n : Nat} (f : α → Bool) (z : α) (h : n = O.length) : ((List.range n).filter fun i => f (O.getD i z)).length = (O.filter f).length := by
  have e : O = (List.range n).map fun i => O.getD i z := by
    have := range_map (fun x : α => x) z h
    rw [this, List.map_id']
  conv => rhs; rw [e, List.filter_map, List.length_map]
  rfl
def spBan (K : PySem.W.Frag) : Sp := fun vs H Q _ => ∃ (o1 o2 : Addr) (L M : List Bar) (e : Int) (x : V) (d : D), vs = [.ref o1, .ref o2, .int e, x] ∧ BL H o1 L ∧ BL H o2 M ∧ Right L ∧ Right M ∧ 0 ≤ e ∧ e ≤ 2000 ∧ TD K H x d ∧ ∀ (bb : Bool) (H' : Hp), (bb = true ↔ BanP L M e d) → Ext H H' → Q (.bl bb) H'
theorem int_tup {K : PySem.W.Frag} {H : Hp} {x : V} {ns : List Int} (h : TD K H x (.tup (ns.map .int))) : ∃ t, x = .ref t ∧ H t = some (.tup (ns.map V.int)) ∧ ns.length ≤ 1000 := by
  cases h with
  | tup ha hl ts =>
    have e := ints_td ts
    subst e
    rw [List.length_map] at hl
    exact ⟨_, rfl, ha, hl⟩
section
variable {P : Program} {w : World} {K : PySem.W.Frag} {mg : Str → Option Value} {base : Heap}
abbrev banN : List Str := ["one", "other", "e", "thing", "side", "lot", "bars", "others", "met", "number", "bar"]
theorem scBan : FnScope banN ["one", "other", "e", "thing"] (defScope sBan) := ⟨rfl, rfl, rfl, by decide +kernel, rfl, by decide +kernel, by decide +kernel⟩
theorem ok_ban {f : Addr} {fd : FuncData} (F : L2.Fun K "is_ban" "is_ban" sBan f fd) (T : Gb mg) (nA : mg "any" = none) (cDe : Cal P w K mg base 5 "demand_both" spDem2 []) (cN : Cal P w K mg base 2 "is_number" (spNumber K) []) (cA : Cal P w K mg base 3 "is_ascending" (spAsc K) []) (cF : Cal P w K mg base 1 "fit" spFit []) (cS : Cal P w K mg base 1 "is_short" spShort []) : FnOk P w K mg base CX0 6 f fd ["one", "other", "e", "thing"] (spBan K) := by
  refine F.ok scBan (fun vs H Q E h => ?_) (fun cdv A outer s H vs Q E hr h => ?_)
  · obtain ⟨o1, o2, L, M, e, x, d, rfl, _⟩ := h
    rfl
  · obtain ⟨o1, o2, L, M, e, x, d, rfl, b1, b2, rL, rM, e0, e1, td, k⟩ := h
    refine ⟨_, pss_cons (ps_expr (C8.pe_c cDe hr (by decide) (by rfl) (pa_cons (pv 0) (pa_cons (pv 1) (pa_cons (pv 2) pa_nil)))))
      (C8.pss_cut (ps_if (PW.pt (pw_or (pt_not (pt_val (pe_callB call_isi (by rfl) T.isi (by decide +kernel) (pa_cons (pv 3) (pa_cons (pe_bltn (v := .ty "tuple") (by rfl) T.tup (by decide +kernel) rfl) pa_nil))))) (pw_or (pt_cmpR op_ne (pe_callB call_len_seq (by rfl) T.len PySem.boot_len (pa_cons (pv 3) pa_nil)) pe_int (nomark _)) (pw_or1 (pt_not (pt_val (C8.pe_c cN hr (by decide) (by rfl) (pa_cons pe_int (pa_cons (pe_ix ix_tup (pv 3) pe_int (fun _ _ => rfl)) pa_nil))))))))) (pss_one (ps_ret pe_bl)) pss_nil)
      (pss_cons (ps_asg (pv 3) (pg_tup rfl (pgs_cons (pg_name (i := 4) scBan.nd rfl (Or.inl rfl)) (pgs_cons (pg_name (i := 5) scBan.nd rfl (Or.inr rfl)) pgs_nil))))
      (C8.pss_cut (ps_asg (pe_ifExp (pt_cmpR op_eq (pv 4) pe_int (nomark _)) (pe_tup (pa_cons (pv 0) (pa_cons (pv 1) pa_nil))) (pe_tup (pa_cons (pv 1) (pa_cons (pv 0) pa_nil)))) (pg_tup rfl (pgs_cons (pg_name (i := 6) scBan.nd rfl (Or.inr rfl)) (pgs_cons (pg_name (i := 7) scBan.nd rfl (Or.inl rfl)) pgs_nil))))
      (pss_cons (ps_if (pt_not (pt_val (C8.pe_c cA hr (by decide) (by rfl) (pa_cons (pe_op op_sub (pe_callB call_len_seq (by rfl) T.len PySem.boot_len (pa_cons (pv 6) pa_nil)) pe_int) (pa_cons (pv 5) pa_nil))))) (pss_one (ps_ret pe_bl)) pss_nil)
      (pss_cons (ps_if (pt_val (pe_callB (cr_any rfl) (by rfl) nA (by decide +kernel) (pa_cons (pe_lc (own := [("number", 9)]) (g := gName 9) (tt := tYes) rfl scBan.nd (pi_tup (pv 5)) (blkOk_by (N := banN) (sc := defScope sBan) (by decide +kernel)) (fun _ _ _ _ _ => (pg_name (i := 9) scBan.nd rfl (Or.inl rfl))) (fun _ _ _ _ _ => pts_nil) (fun _ _ _ _ _ => (C8.pe_c cS hr (by decide) (by rfl) (pa_cons (pe_ix (r := rIxL K) ix_list (pv 6) (pv 9) (fun _ _ => rfl)) (pa_cons (pv 2) pa_nil))))) pa_nil))) (pss_one (ps_ret pe_bl)) pss_nil)
      (pss_cons (ps_setLc (i := 8) (own := [("bar", 10)]) (g := gName 10) rfl scBan.nd rfl rfl (sw_true rfl rfl rfl (by decide +kernel)) (pi_list (pv 7)) (blkOk_by (N := banN) (sc := defScope sBan) (by decide +kernel)) (fun _ _ _ _ _ => (pg_name (i := 10) scBan.nd rfl (Or.inr rfl))) (fun _ _ _ _ _ => (pts_one (pt_val (pe_callB (r := rAny K) (cr_any rfl) (by rfl) nA (by decide +kernel) (pa_cons (pe_lc (own := [("number", 9)]) (g := gName 9) (tt := tYes) (wi := iTup K (tVar 5)) rfl scBan.nd (pi_tup (pv 5)) (blkOk_by (by first | kernel_rfl | rfl)) (fun _ _ _ _ _ => (pg_name (i := 9) scBan.nd rfl (Or.inl rfl))) (fun _ _ _ _ _ => pts_nil) (fun _ _ _ _ _ => (C8.pe_c cF hr (by decide) (by rfl) (pa_cons (pe_ix (r := rIxL K) ix_list (pv 6) (pv 9) (fun _ _ => rfl)) (pa_cons (pv 10) (pa_cons (pv 2) pa_nil)))))) pa_nil))))) (fun _ _ _ _ _ => (pv 10)))
      (pss_one (ps_ret (pe_cmpR op_lt (pe_callB call_len_seq (by rfl) T.len PySem.boot_len (pa_cons (pv 8) pa_nil)) (pe_callB call_len_seq (by rfl) T.len PySem.boot_len (pa_cons (pv 5) pa_nil)) (nomark _)))))))))), ?_⟩
    refine ⟨_, rfl, _, rfl, _, rfl, o1, o2, L, M, e, rfl, b1, b2, rL, rM, e0, e1, fun H1 x1 => ?_⟩
    have b1 := b1.ext x1
    have b2 := b2.ext x1
    have td := td.ext x1
    refine ⟨fun σ' H' => ∃ (s1 : Int) (x2 : V) (d2 : D) (a : Addr), d = .tup [.int s1, d2] ∧ (s1 = 0 ∨ s1 = 1) ∧ σ' = [some (.ref o1), some (.ref o2), some (.int e), some (.ref a), Option.none, Option.none, Option.none, Option.none, Option.none, Option.none, Option.none] ∧ H' = H1 ∧ H1 a = some (.tup [.int s1, x2]) ∧ TD K H1 x2 d2, ?_, ?_⟩
    · obtain ⟨t, ty, kt⟩ := td_isT td
      cases hd : isT d with
      | false =>
        rw [hd] at kt
        refine ⟨_, rfl, x, .ty "tuple", t, .type "tuple", _, rfl, .ty _, ty, kt, _, rfl, ?_⟩
        exact iteT (iteT (k false H1 ⟨fun z => Bool.noConfusion z, fun ⟨s1, ns, q, _⟩ => by rw [q] at hd; cases hd⟩ x1))
      | true =>
        rw [hd] at kt
        cases td with
        | tup ha len ts =>
          rename_i a xs ds
          refine ⟨_, rfl, _, .ty "tuple", t, .type "tuple", _, rfl, .ty _, ty, kt, _, rfl, ?_⟩
          refine iteF ⟨_, rfl, a, _, rfl, .inr (SqT.of ha), rfl, _, rfl, ?_⟩
          by_cases c2 : xs.length = 2
          · have dn : (!decide (V.int ((xs.length : Nat) : Int) = V.int 2)) = false := by rw [c2]; rfl
            refine ite2 (fun z => ?_) (fun _ => ?_)
            · exact absurd (z.symm.trans dn) (by decide)
            · match xs, ds, ts, c2 with
              | [x1', x2'], _, .cons (d := d1) t1 (.cons (d := d2) t2 .nil), _ =>
                refine ⟨_, rfl, a, _, _, _, rfl, rfl, SqT.of ha, rfl, _, _, rfl, TD.th t1, _, rfl, ?_⟩
                rw [num_td t1]
                cases hn : numD 1 d1 with
                | false =>
                  exact iteT (k false H1 ⟨fun z => Bool.noConfusion z, fun ⟨s1, ns, q, hs, _⟩ => by
                    injection q with q
                    injection q with q1 q2
                    subst q1
                    have : numD 1 (.int s1) = true := numD_true.mpr ⟨s1, rfl, by omega, by omega⟩
                    rw [this] at hn
                    cases hn⟩ x1)
                | true =>
                  obtain ⟨i, rfl, i0, i1⟩ := numD_true.mp hn
                  cases t1
                  exact iteF ⟨i, x2', d2, a, rfl, by omega, rfl, rfl, ha, t2⟩
          · have nb : ¬ BanP L M e (.tup ds) := fun ⟨s1, ns, q, _⟩ => by
              injection q with q
              have := ts.len
              rw [q] at this
              exact c2 this
            have dn : (!decide (V.int ((xs.length : Nat) : Int) = V.int 2)) = true := by
              rw [decI, decide_eq_false (by omega)]
              rfl
            refine ite2 (fun _ => ?_) (fun z => absurd dn z)
            exact iteT (k false H1 ⟨fun z => Bool.noConfusion z, fun z => absurd z nb⟩ x1)
        | _ => cases hd
    rintro σ' H1' ⟨s1, x2, d2, a, rfl, hs, rfl, rfl, ha, td2⟩
    refine ⟨_, rfl, a, _, rfl, SqT.of ha, rfl, _, _, rfl, _, _, rfl, rfl, ?_⟩
    refine ⟨fun σ' H' => ∃ oB oO : Addr, σ' = [some (.ref o1), some (.ref o2), some (.int e), some (.ref a), some (.int s1), some x2, some (.ref oB), some (.ref oO), Option.none, Option.none, Option.none] ∧ Ext H1' H' ∧ BL H' oB (if s1 = 0 then L else M) ∧ BL H' oO (if s1 = 0 then M else L), ?_, ?_⟩
    · refine ⟨_, rfl, rfl, _, rfl, ?_⟩
      refine ite2 (fun z => ?_) (fun z => ?_)
      · have s0 : s1 = 0 := by have := of_decide_eq_true z; injection this
        refine ⟨_, rfl, _, rfl, by show 2 ≤ sizeLine; decide, fun t nt => ?_⟩
        have xt := Ext.upd (o := .tup [V.ref o1, V.ref o2]) nt
        refine ⟨t, _, rfl, SqT.of upd_same, rfl, _, _, rfl, _, _, rfl, rfl, o1, o2, rfl, xt, ?_, ?_⟩
        · rw [if_pos s0]; exact b1.ext xt
        · rw [if_pos s0]; exact b2.ext xt
      · have s0 : ¬ s1 = 0 := fun y => z (by rw [y]; exact decide_eq_true rfl)
        refine ⟨_, rfl, _, rfl, by show 2 ≤ sizeLine; decide, fun t nt => ?_⟩
        have xt := Ext.upd (o := .tup [V.ref o2, V.ref o1]) nt
        refine ⟨t, _, rfl, SqT.of upd_same, rfl, _, _, rfl, _, _, rfl, rfl, o2, o1, rfl, xt, ?_, ?_⟩
        · rw [if_neg s0]; exact b2.ext xt
        · rw [if_neg s0]; exact b1.ext xt
    rintro σ' H2 ⟨oB, oO, rfl, e2, hB, hO⟩
    have rB : Right (if s1 = 0 then L else M) := by
      by_cases z : s1 = 0
      · rw [if_pos z]; exact rL
      · rw [if_neg z]; exact rM
    have rO : Right (if s1 = 0 then M else L) := by
      by_cases z : s1 = 0
      · rw [if_pos z]; exact rM
      · rw [if_neg z]; exact rL
    have goal : ∀ (bb : Bool) (H' : Hp), (bb = true ↔ ∃ ns : List Int, d2 = .tup (ns.map .int) ∧ BanOk (if s1 = 0 then L else M) (if s1 = 0 then M else L) e ns) → Ext H2 H' → Q (.bl bb) H' := fun bb H' h eh => by
      refine k bb H' (h.trans ⟨fun ⟨ns, q1, q2⟩ => ⟨s1, ns, by rw [q1], hs, q2⟩, fun ⟨s2, ns, q1, _, q2⟩ => ?_⟩) (x1.trans (e2.trans eh))
      injection q1 with q1
      injection q1 with q3 q4
      injection q3 with q3
      injection q4 with q4 _
      subst q3
      exact ⟨ns, q4, q2⟩
    generalize (if s1 = 0 then L else M) = B at *
    generalize (if s1 = 0 then M else L) = O at *
    have td3 := td2.ext e2
    obtain ⟨as, hoB, btB⟩ := hB
    have lB : as.length = B.length := btB.len
    refine ⟨_, rfl, oB, _, rfl, .inl (SqL.of hoB), _, _, rfl, rfl, _, rfl, _, x2, d2, rfl, td3, fun bb H3 hbb e3 => ⟨_, rfl, ?_⟩⟩
    rw [List.length_map, lB] at hbb
    cases bb with
    | false => exact iteT (goal false H3 ⟨fun z => Bool.noConfusion z, fun ⟨ns, q1, q2⟩ => hbb.mpr ⟨ns, q1, fun n hn => by have := q2.bd n hn; omega, q2.asc⟩⟩ e3)
    | true =>
      obtain ⟨ns, rfl, lo, asc⟩ := hbb.mp rfl
      obtain ⟨t, rfl, ht, ln⟩ := int_tup td3
      have ht3 := e3 _ _ ht
      have hB3 := e3 _ _ hoB
      have btB3 : BT H3 as B := btB.mono fun _ _ z => e3 _ _ z
      have getB : ∀ {n : Int}, n ∈ ns → ∃ (b : Addr) (u : Bar), (as.map V.ref)[n.toNat]? = some (.ref b) ∧ H3 b = some (.tup (barL u)) ∧ B.getD n.toNat (0, none) = u := fun {n} hn => by
        have := lo n hn
        have g1 : as[n.toNat]? = some (as[n.toNat]'(by omega)) := List.getElem?_eq_getElem _
        obtain ⟨u, hu, hut⟩ := btB3.get g1
        exact ⟨_, u, by rw [List.getElem?_map, g1]; rfl, hut, by rw [List.getD_eq_getElem?_getD, hu]; rfl⟩
      refine iteF ?_
      -- none of them is short
      refine ⟨_, rfl, t, rfl, ⟨_, SqT.of ht3⟩, fun D4 nD4 => ?_⟩
      refine lc_gen (p := fun _ => true) walk_tup nD4 (by rw [List.length_map]; exact ln) (fun i y _ => y = V.bl (shortB (B.getD (ns.getD i 0).toNat (0, none)) e)) (fun _ _ _ _ _ z => z) (fun H' e => SqT.of (e _ _ ht3)) ?_ ?_
      · rintro i y H4 H' R N hi e4 ⟨rfl, hy⟩ hR _
        obtain ⟨n, hn, rfl⟩ := map_int_get hy
        obtain ⟨b, u, g1, g2, g3⟩ := getB (List.mem_of_getElem? hn)
        have := lo n (List.mem_of_getElem? hn)
        refine ⟨rfl, tyes_in ⟨_, rfl, _, rfl, oB, _, _, _, rfl, rfl, SqL.of (e4 _ _ hB3), at_of (j := n.toNat) (by omega) g1, ?_⟩⟩
        exact ⟨_, rfl, b, u, e, rfl, e4 _ _ g2, hR rfl _ H' Ext.rfl' (by rw [List.getD_eq_getElem?_getD (l := ns), hn]; show _ = V.bl (shortB (B.getD n.toNat _) e); rw [g3])⟩
      intro ys H4 e4 hD4 pr4
      have ey := flags_of (t := fun i => shortB (B.getD (ns.getD i 0).toNat (0, none)) e) pr4
      rw [range_map (fun n : Int => shortB (B.getD n.toNat (0, none)) e) 0 (by rw [List.length_map])] at ey
      subst ey
      cases b4 : (ns.map fun n : Int => shortB (B.getD n.toNat (0, none)) e).any id with
      | true =>
        refine ⟨D4, _, rfl, SqL.of hD4, true, congrArg V.bl b4, ?_⟩
        refine iteT (goal false H4 ⟨fun z => Bool.noConfusion z, fun ⟨ms, q1, q2⟩ => ?_⟩ (e3.trans e4))
        injection q1 with q1
        rw [← dint_inj q1] at q2
        obtain ⟨b, hb, hb2⟩ := List.any_eq_true.mp b4
        obtain ⟨n, hn, rfl⟩ := List.mem_map.mp hb
        have := q2.long n hn
        rw [this] at hb2
        cases hb2
      | false =>
        refine ⟨D4, _, rfl, SqL.of hD4, false, congrArg V.bl b4, ?_⟩
        have long : ∀ n ∈ ns, shortB (B.getD n.toNat (0, none)) e = false := fun n hn => by
          cases q : shortB (B.getD n.toNat (0, none)) e with
          | false => rfl
          | true =>
            have := List.any_eq_false.mp b4 _ (List.mem_map.mpr ⟨n, hn, rfl⟩)
            exact absurd q this
        refine iteF ?_
        have ht4 := e4 _ _ ht3
        have hB4 := e4 _ _ hB3
        have e24 := e3.trans e4
        obtain ⟨cs, hoO, btO⟩ := hO.ext e24
        have lO : cs.length = O.length := btO.len
        have l20 : cs.length ≤ 1000 := by have := rO.1; omega
        refine ⟨_, rfl, oO, rfl, ⟨_, SqL.of hoO⟩, fun D5 nD5 => ?_⟩
        refine lc_gen (p := fun i => fitsB B e ns (O.getD i (0, none))) walk_list nD5 (by rw [List.length_map]; exact l20) (fun _ _ _ => True) (fun _ _ _ _ _ z => z) (fun H' e => SqL.of (e _ _ hoO)) ?_ ?_
        · rintro i y H5 H' R N hi e5 ⟨rfl, hy⟩ hR hN
          obtain ⟨c, hc, rfl⟩ := ref_get hy
          obtain ⟨v, hv, hvt⟩ := btO.get hc
          have hgv : O.getD i (0, none) = v := by rw [List.getD_eq_getElem?_getD, hv]; rfl
          rw [hgv] at hR hN
          refine ⟨rfl, ?_⟩
          refine ⟨_, rfl, t, rfl, ⟨_, SqT.of (e5 _ _ ht4)⟩, fun D6 nD6 => ?_⟩
          refine lc_gen (p := fun _ => true) walk_tup nD6 (by rw [List.length_map]; exact ln) (fun i y _ => y = V.bl (fitB (B.getD (ns.getD i 0).toNat (0, none)) v e)) (fun _ _ _ _ _ z => z) (fun H' e => SqT.of (e _ _ (e5 _ _ ht4))) ?_ ?_
          · rintro j z H6 H'' R2 N2 hj e6 ⟨rfl, hz⟩ hR2 _
            obtain ⟨n, hn, rfl⟩ := map_int_get hz
            obtain ⟨b, u, g1, g2, g3⟩ := getB (List.mem_of_getElem? hn)
            have := lo n (List.mem_of_getElem? hn)
            refine ⟨rfl, tyes_in ⟨_, rfl, _, rfl, oB, _, _, _, rfl, rfl, SqL.of (e6 _ _ (e5 _ _ hB4)), at_of (j := n.toNat) (by omega) g1, ?_⟩⟩
            exact ⟨_, rfl, _, rfl, b, c, u, v, e, rfl, e6 _ _ (e5 _ _ (e4 _ _ g2)), e6 _ _ (e5 _ _ hvt), hR2 rfl _ H'' Ext.rfl' (by rw [List.getD_eq_getElem?_getD (l := ns), hn]; show _ = V.bl (fitB (B.getD n.toNat _) v e); rw [g3])⟩
          intro zs H6 e6 hD6 pr6
          have ez := flags_of (t := fun i => fitB (B.getD (ns.getD i 0).toNat (0, none)) v e) pr6
          rw [range_map (fun n : Int => fitB (B.getD n.toNat (0, none)) v e) 0 (by rw [List.length_map])] at ez
          subst ez
          refine ⟨D6, _, rfl, SqL.of hD6, fitsB B e ns v, rfl, ?_⟩
          cases hf : fitsB B e ns v with
          | true => exact iteT ⟨_, rfl, hR hf _ H6 e6 True.intro⟩
          | false => exact iteF (hN hf H6 e6)
        intro ys H5 e5 hD5 pr5
        have ly : ys.length = (O.filter (fitsB B e ns)).length := by
          rw [← Paired.length pr5, filter_len (fitsB B e ns) (0, none) (by rw [List.length_map, lO])]
        refine ⟨_, rfl, D5, _, rfl, .inl (SqL.of hD5), _, rfl, t, _, rfl, .inr (SqT.of (e5 _ _ ht4)), _, _, rfl, rfl, ?_⟩
        refine goal _ H5 ?_ (e24.trans e5)
        rw [decide_eq_true_iff, List.length_map, ly]
        constructor
        · intro z
          exact ⟨ns, rfl, fun n hn => by have := lo n hn; omega, asc, long, by omega⟩
        · rintro ⟨ms, q1, q2⟩
          injection q1 with q1
          rw [← dint_inj q1] at q2
          have := q2.few
          omega
end
end B46

set_option Elab.async false
set_option linter.all false
set_option maxRecDepth 100000
set_option maxHeartbeats 4000000
set_option pp.maxSteps 60
/-! The law's own judges. -/
namespace B46
open PySem L2
abbrev sLNum : Stmt := top 35
abbrev sLPair : Stmt := top 36
def spLNum (K : PySem.W.Frag) : Sp := fun vs H Q _ => ∃ (m : Int) (x : V), vs = [x, .int m] ∧ Th K H 0 x ∧ Q (.bl (numV (m - 1) x)) H
/-- what stands behind some pairs -/
def lastF (ps : List (Int × Int)) : Int := (ps.getLast?.map (·.1)).getD (-1)
theorem lastF_snoc (ps : List (Int × Int)) (p : Int × Int) : lastF (ps ++ [p]) = p.1 := by
  unfold lastF
  rw [List.getLast?_append]
  rfl
theorem last_all : ∀ {ps : List (Int × Int)}, (ps.map (·.1)).Pairwise (· < ·) → ∀ p ∈ ps, p.1 ≤ lastF ps := by
  intro ps
  refine snoc_ind (P := fun ps => (ps.map (·.1)).Pairwise (· < ·) → ∀ p ∈ ps, p.1 ≤ lastF ps) (fun _ p h => nomatch h) (fun ps q ih h p hp => ?_) ps
  rw [lastF_snoc]
  rw [List.map_append, List.pairwise_append] at h
  rcases List.mem_append.mp hp with z | z
  · exact Int.le_of_lt (h.2.2 _ (List.mem_map.mpr ⟨p, z, rfl⟩) _ (by simp))
  · rw [List.mem_singleton.mp z]
    exact Int.le_refl _
/-- .. up to a turn -/
structure Upto (L M : List Bar) (e : Int) (ps : List (Int × Int)) : Prop where
  bd : ∀ p ∈ ps, (0 ≤ p.1 ∧ p.1 < (L.length : Int)) ∧ 0 ≤ p.2 ∧ p.2 < (M.length : Int)
  asc : (ps.map (·.1)).Pairwise (· < ·)
  nd : (ps.map (·.2)).Nodup
  fit : ∀ p ∈ ps, FitP L M e p
theorem Upto.nil (L M : List Bar) (e : Int) : Upto L M e [] := ⟨(fun _ h => nomatch h), List.Pairwise.nil, by simp, (fun _ h => nomatch h)⟩
theorem Upto.snoc {L M : List Bar} {e : Int} {ps : List (Int × Int)} {p : Int × Int} (u : Upto L M e ps) (h1 : (0 ≤ p.1 ∧ p.1 < (L.length : Int)) ∧ 0 ≤ p.2 ∧ p.2 < (M.length : Int)) (h2 : lastF ps < p.1) (h3 : p.2 ∉ ps.map (·.2)) (h4 : FitP L M e p) : Upto L M e (ps ++ [p]) := by
  refine ⟨fun q hq => ?_, ?_, ?_, fun q hq => ?_⟩
  · rcases List.mem_append.mp hq with z | z
    · exact u.bd q z
    · rw [List.mem_singleton.mp z]; exact h1
  · rw [List.map_append, List.pairwise_append]
    refine ⟨u.asc, List.pairwise_singleton _ _, fun a ha b hb => ?_⟩
    obtain ⟨q, hq, rfl⟩ := List.mem_map.mp ha
    rw [List.map_cons, List.map_nil, List.mem_singleton] at hb
    subst hb
    have := last_all u.asc q hq
    omega
  · rw [List.map_append, List.nodup_append]
    refine ⟨u.nd, by simp, fun a ha b hb ee => ?_⟩
    rw [List.map_cons, List.map_nil, List.mem_singleton] at hb
    subst hb
    exact h3 (ee ▸ ha)
  · rcases List.mem_append.mp hq with z | z
    · exact u.fit q z
    · rw [List.mem_singleton.mp z]; exact h4
/-- what is needed of the next pair -/
theorem next_ok {L M : List Bar} {e : Int} {ps qs : List (Int × Int)} {i : Nat} {p : Int × Int} (h : Upto L M e qs) (e1 : (qs.take i) = ps) (e2 : qs[i]? = some p) : ((0 ≤ p.1 ∧ p.1 < (L.length : Int)) ∧ 0 ≤ p.2 ∧ p.2 < (M.length : Int)) ∧ lastF ps < p.1 ∧ p.2 ∉ ps.map (·.2) ∧ FitP L M e p := by
  have hm := List.mem_of_getElem? e2
  have tk : qs.take (i + 1) = ps ++ [p] := by rw [List.take_succ, e1, e2]; rfl
  have a1 : ((ps ++ [p]).map (·.1)).Pairwise (· < ·) := by
    rw [← tk, List.map_take]
    exact h.asc.sublist (List.take_sublist _ _)
  have n1 : ((ps ++ [p]).map (·.2)).Nodup := by
    rw [← tk, List.map_take]
    exact h.nd.sublist (List.take_sublist _ _)
  refine ⟨h.bd p hm, ?_, ?_, h.fit p hm⟩
  · rw [List.map_append, List.pairwise_append] at a1
    cases hl : ps.getLast? with
    | none =>
      unfold lastF
      rw [hl]
      have := (h.bd p hm).1.1
      show (-1 : Int) < p.1
      omega
    | some q =>
      unfold lastF
      rw [hl]
      exact a1.2.2 q.1 (List.mem_map.mpr ⟨q, List.mem_of_getLast? hl, rfl⟩) p.1 (by simp)
  · rw [List.map_append, List.nodup_append] at n1
    intro z
    exact n1.2.2 p.2 z p.2 (by simp) rfl
/-- a long one that is not among these numbers -/
def anyLong (L : List Bar) (e : Int) (ks : List Int) : Bool := (((List.range L.length).filter fun i : Nat => !decide ((i : Int) ∈ ks)).map fun i => !shortB (L.getD i (0, none)) e).any id
theorem anyLong_false {L : List Bar} {e : Int} {ks : List Int} : anyLong L e ks = false ↔ CovP L e ks := by
  unfold anyLong
  rw [List.any_eq_false]
  constructor
  · intro h n b hb hs
    apply Classical.byContradiction
    intro no
    have hn := (List.getElem?_eq_some_iff.mp hb).1
    refine h (!shortB (L.getD n (0, none)) e) (List.mem_map.mpr ⟨n, List.mem_filter.mpr ⟨List.mem_range.mpr hn, by rw [decide_eq_false no]; rfl⟩, rfl⟩) ?_
    rw [List.getD_eq_getElem?_getD, hb]
    show (!shortB b e) = true
    rw [hs]
    rfl
  · intro h x hx z
    obtain ⟨n, hn, rfl⟩ := List.mem_map.mp hx
    obtain ⟨h1, h2⟩ := List.mem_filter.mp hn
    have lt := List.mem_range.mp h1
    have hb : L[n]? = some L[n] := List.getElem?_eq_getElem lt
    have hg : L.getD n (0, none) = L[n] := by rw [List.getD_eq_getElem?_getD, hb]; rfl
    rw [hg] at z
    have hs : shortB L[n] e = false := by
      cases q : shortB L[n] e with
      | false => rfl
      | true => rw [q] at z; cases z
    have := h n _ hb hs
    rw [decide_eq_true this] at h2
    cases h2
theorem two_items {K : PySem.W.Frag} {H : Hp} : ∀ {xs : List V} {ds : List D}, TDs K H xs ds → xs.length = 2 → ∃ x1 x2 d1 d2, xs = [x1, x2] ∧ ds = [d1, d2] ∧ TD K H x1 d1 ∧ TD K H x2 d2
  | _, _, .cons a (.cons b .nil), _ => ⟨_, _, _, _, rfl, rfl, a, b⟩
section
variable {P : Program} {w : World} {K : PySem.W.Frag} {mg : Str → Option Value} {base : Heap}
theorem scLNum : FnScope ["_law_thing", "_law_below"] ["_law_thing", "_law_below"] (defScope sLNum) := ⟨rfl, rfl, rfl, by decide +kernel, rfl, by decide +kernel, by decide +kernel⟩
theorem ok_lnum {f : Addr} {fd : FuncData} (F : L2.Fun K "_law_is_number" "_law_is_number" sLNum f fd) (T : Gb mg) : FnOk P w K mg base CX0 1 f fd ["_law_thing", "_law_below"] (spLNum K) := by
  refine F.ok scLNum (fun vs H Q E h => ?_) (fun cdv A outer s H vs Q E hr h => ?_)
  · obtain ⟨m, x, rfl, _⟩ := h
    rfl
  · obtain ⟨m, x, rfl, th, k⟩ := h
    unfold Th at th
    obtain ⟨t, ty, ki, kb, _⟩ := th
    refine ⟨_, pss_one (ps_ret (pe_and (pe_callB call_isi (by rfl) T.isi (by decide +kernel) (pa_cons (pv 0) (pa_cons (pe_bltn (v := .ty "int") (by rfl) T.int (by decide +kernel) rfl) pa_nil))) (pe_and (pe_not (pe_callB call_isi (by rfl) T.isi (by decide +kernel) (pa_cons (pv 0) (pa_cons (pe_bltn (v := .ty "bool") (by rfl) T.bool (by decide +kernel) rfl) pa_nil)))) (pe_one (pe_chain op_le op_lt pe_int (pv 0) (pv 1)))))), ?_⟩
    refine ⟨_, rfl, x, .ty "int", t, .type "int", _, rfl, .ty _, ty, ki, _, rfl, ?_⟩
    cases x with
    | int i =>
      refine iteT ⟨_, rfl, _, .ty "bool", t, .type "bool", _, rfl, .ty _, ty, kb, _, rfl, ?_⟩
      refine ⟨_, rfl, ?_⟩
      refine iteT ⟨_, rfl, _, _, rfl, rfl, _, rfl, ?_⟩
      by_cases h0 : (0 : Int) ≤ i
      · rw [decide_eq_true h0]
        refine iteT ⟨_, rfl, _, _, rfl, rfl, ?_⟩
        have e : numV (m - 1) (.int i) = decide (i < m) := by
          simp only [numV, decide_eq_true h0, Bool.true_and]
          exact decide_eq_decide.mpr (by omega)
        rw [e] at k
        exact k
      · rw [decide_eq_false h0]
        have e : numV (m - 1) (.int i) = false := by simp [numV, h0]
        rw [e] at k
        exact iteF k
    | bl b =>
      refine iteT ⟨_, rfl, _, .ty "bool", t, .type "bool", _, rfl, .ty _, ty, kb, _, rfl, ?_⟩
      exact ⟨_, rfl, iteF k⟩
    | _ => exact iteF k
abbrev lpairN : List Str := ["_law_one", "_law_other", "_law_e", "_law_thing", "_law_last", "_law_used", "_law_pair", "_law_firsts", "_law_at", "_law_bar_here"]
theorem scLPair : FnScope lpairN ["_law_one", "_law_other", "_law_e", "_law_thing"] (defScope sLPair) := ⟨rfl, rfl, rfl, by decide +kernel, rfl, by decide +kernel, by decide +kernel⟩
theorem ok_lpair {f : Addr} {fd : FuncData} (F : L2.Fun K "_law_is_pairing" "_law_is_pairing" sLPair f fd) (T : Gb mg) (nA : mg "any" = none) (cN : Cal P w K mg base 1 "_law_is_number" (spLNum K) []) (cF : Cal P w K mg base 1 "_law_fits" spFit []) (cL : Cal P w K mg base 1 "_law_is_long" spIsLong []) : FnOk P w K mg base CX0 2 f fd ["_law_one", "_law_other", "_law_e", "_law_thing"] (spPairing K) := by
  refine F.ok scLPair (fun vs H Q E h => ?_) (fun cdv A outer s H vs Q E hr h => ?_)
  · obtain ⟨o1, o2, L, M, e, x, d, rfl, _⟩ := h
    rfl
  · obtain ⟨o1, o2, L, M, e, x, d, rfl, b1, b2, rL, rM, e0, e1, td, k⟩ := h
    refine ⟨_, pss_cons (ps_if (pt_not (pt_val (pe_callB call_isi (by rfl) T.isi (by decide +kernel) (pa_cons (pv 3) (pa_cons (pe_bltn (v := .ty "tuple") (by rfl) T.tup (by decide +kernel) rfl) pa_nil))))) (pss_one (ps_ret pe_bl)) pss_nil)
      (pss_cons (ps_asg (pe_tup (pa_cons (pe_un un_neg pe_int) (pa_cons (pe_lst pa_nil) pa_nil))) (pg_tup rfl (pgs_cons (pg_name (i := 4) scLPair.nd rfl (Or.inl rfl)) (pgs_cons (pg_name (i := 5) scLPair.nd rfl (Or.inr rfl)) pgs_nil))))
      (pss_cons (ps_for PassesOwn.never rfl (pi_tup (pv 3)) (pg_name (i := 6) scLPair.nd rfl (Or.inl rfl))
      (pss_cons (ps_if (PW.pt (pw_or (pt_not (pt_val (pe_callB call_isi (by rfl) T.isi (by decide +kernel) (pa_cons (pv 6) (pa_cons (pe_bltn (v := .ty "tuple") (by rfl) T.tup (by decide +kernel) rfl) pa_nil))))) (pw_or (pt_cmpR op_ne (pe_callB call_len_seq (by rfl) T.len PySem.boot_len (pa_cons (pv 6) pa_nil)) pe_int (nomark _)) (pw_or1 (pt_not (pt_val (C8.pe_c cN hr (by decide) (by rfl) (pa_cons (pe_ix ix_tup (pv 6) pe_int (fun _ _ => rfl)) (pa_cons (pe_callB call_len_seq (by rfl) T.len PySem.boot_len (pa_cons (pv 0) pa_nil)) pa_nil))))))))) (pss_one (ps_ret pe_bl)) pss_nil)
      (pss_cons (ps_if (PW.pt (pw_or (pt_not (pt_val (C8.pe_c cN hr (by decide) (by rfl) (pa_cons (pe_ix ix_tup (pv 6) pe_int (fun _ _ => rfl)) (pa_cons (pe_callB call_len_seq (by rfl) T.len PySem.boot_len (pa_cons (pv 1) pa_nil)) pa_nil))))) (pw_or (pt_cmpR op_le (pe_ix ix_tup (pv 6) pe_int (fun _ _ => rfl)) (pv 4) (nomark _)) (pw_or1 (pt_cmpR op_in_seq (pe_ix ix_tup (pv 6) pe_int (fun _ _ => rfl)) (pv 5) (by rfl)))))) (pss_one (ps_ret pe_bl)) pss_nil)
      (pss_cons (ps_if (pt_not (pt_val (C8.pe_c cF hr (by decide) (by rfl) (pa_cons (pe_ix ix_list (pv 0) (pe_ix ix_tup (pv 6) pe_int (fun _ _ => rfl)) (fun _ _ => rfl)) (pa_cons (pe_ix ix_list (pv 1) (pe_ix ix_tup (pv 6) pe_int (fun _ _ => rfl)) (fun _ _ => rfl)) (pa_cons (pv 2) pa_nil)))))) (pss_one (ps_ret pe_bl)) pss_nil)
      (pss_cons (ps_set (i := 4) scLPair.nd rfl (Or.inl rfl) (pe_ix ix_tup (pv 6) pe_int (fun _ _ => rfl)))
      (pss_one (ps_expr (pe_bm PySem.F.plainAttrs_list PySem.F.slot_list_append PySem.F.type_list_append mt_append (pv 5) (pa_cons (pe_ix ix_tup (pv 6) pe_int (fun _ _ => rfl)) pa_nil)))))))))
      (pss_cons (ps_set (i := 7) scLPair.nd rfl (Or.inr rfl) (pe_lc (own := [("_law_pair", 6)]) (g := gName 6) (tt := tYes) rfl scLPair.nd (pi_tup (pv 3)) (blkOk_by (N := lpairN) (sc := defScope sLPair) (by decide +kernel)) (fun _ _ _ _ _ => (pg_name (i := 6) scLPair.nd rfl (Or.inl rfl))) (fun _ _ _ _ _ => pts_nil) (fun _ _ _ _ _ => (pe_ix (r := rIxT K) ix_tup (pv 6) pe_int (fun _ _ => rfl)))))
      (pss_cons (ps_if (pt_val (pe_callB (cr_any rfl) (by rfl) nA (by decide +kernel) (pa_cons (pe_lc (own := [("_law_at", 8), ("_law_bar_here", 9)]) (g := gTup K 2 (gCons (gName 8) (gCons (gName 9) gNil))) rfl scLPair.nd (pi_enum (by rfl) T.enum (pa_cons (pv 0) pa_nil)) (blkOk_by (N := lpairN) (sc := defScope sLPair) (by decide +kernel)) (fun _ _ _ _ _ => (pg_tup rfl (pgs_cons (pg_name (i := 8) scLPair.nd rfl (Or.inl rfl)) (pgs_cons (pg_name (i := 9) scLPair.nd rfl (Or.inl rfl)) pgs_nil)))) (fun _ _ _ _ _ => (pts_one (pt_cmpR (r := rIn K true) op_notIn_seq (pv 8) (pv 7) (by rfl)))) (fun _ _ _ _ _ => (C8.pe_c cL hr (by decide) (by rfl) (pa_cons (pv 9) (pa_cons (pv 2) pa_nil))))) pa_nil))) (pss_one (ps_ret pe_bl)) pss_nil)
      (pss_one (ps_ret (pe_not (pe_callB (cr_any rfl) (by rfl) nA (by decide +kernel) (pa_cons (pe_lc (own := [("_law_at", 8), ("_law_bar_here", 9)]) (g := gTup K 2 (gCons (gName 8) (gCons (gName 9) gNil))) rfl scLPair.nd (pi_enum (by rfl) T.enum (pa_cons (pv 1) pa_nil)) (blkOk_by (N := lpairN) (sc := defScope sLPair) (by decide +kernel)) (fun _ _ _ _ _ => (pg_tup rfl (pgs_cons (pg_name (i := 8) scLPair.nd rfl (Or.inl rfl)) (pgs_cons (pg_name (i := 9) scLPair.nd rfl (Or.inl rfl)) pgs_nil)))) (fun _ _ _ _ _ => (pts_one (pt_cmpR (r := rIn K true) op_notIn_seq (pv 8) (pv 5) (by rfl)))) (fun _ _ _ _ _ => (C8.pe_c cL hr (by decide) (by rfl) (pa_cons (pv 9) (pa_cons (pv 2) pa_nil))))) pa_nil))))))))), ?_⟩
    obtain ⟨t, ty, kt⟩ := td_isT td
    cases hd : isT d with
    | false =>
      rw [hd] at kt
      refine ⟨_, rfl, x, .ty "tuple", t, .type "tuple", _, rfl, .ty _, ty, kt, _, rfl, ?_⟩
      exact iteT (k false H ⟨fun z => Bool.noConfusion z, fun ⟨ps, q, _⟩ => by rw [q] at hd; cases hd⟩ Ext.rfl')
    | true =>
      rw [hd] at kt
      cases td with
      | @tup a xs ds ha len ts =>
        refine ⟨_, rfl, _, .ty "tuple", t, .type "tuple", _, rfl, .ty _, ty, kt, _, rfl, ?_⟩
        refine iteF ?_
        obtain ⟨as, ho1, bt1⟩ := b1
        obtain ⟨bs, ho2, bt2⟩ := b2
        have la : as.length = L.length := bt1.len
        have lb : bs.length = M.length := bt2.len
        refine ⟨_, rfl, Nat.zero_le _, fun u nu => ⟨by show 2 ≤ sizeLine; decide, fun t2 nt2 => ?_⟩⟩
        have xu := Ext.upd (o := .lst []) nu
        have xt2 := Ext.upd (o := .tup [V.int (-1), .ref u]) nt2
        refine ⟨t2, _, rfl, SqT.of upd_same, rfl, _, _, rfl, _, _, rfl, rfl, ?_⟩
        have e2 := xu.trans xt2
        have hu : (upd (upd H u (.lst [])) t2 (.tup [V.int (-1), .ref u])) u = some (.lst []) := xt2 _ _ upd_same
        generalize upd (upd H u (.lst [])) t2 (.tup [V.int (-1), .ref u]) = H2 at *
        have ha2 := e2 _ _ ha
        refine ⟨_, rfl, a, rfl, ⟨_, SqT.of ha2⟩, ?_⟩
        refine for_it walk_tup (fun i σ' H' => ∃ (ps : List (Int × Int)) (v6 : Option V), σ' = [some (.ref o1), some (.ref o2), some (.int e), some (.ref a), some (.int (lastF ps)), some (.ref u), v6, Option.none, Option.none, Option.none] ∧ ds.take i = ps.map pD ∧ ps.length = i ∧ Upto L M e ps ∧
          Ext H H' ∧ H' u = some (.lst ((ps.map (·.2)).map V.int))) ⟨[], _, rfl, rfl, rfl, Upto.nil _ _ _, e2, hu⟩ (fun i σ' H' _ ⟨_, _, _, _, _, _, ex, _⟩ => SqT.of (ex _ _ ha)) ?_ ?_
        · rintro i y σ' H3 H3' hi ⟨ps, v6, rfl, tk, lps, up, ex, hu3⟩ ⟨rfl, hy⟩
          obtain ⟨d, hd, tdd0⟩ := ts.get hy
          have tdd := tdd0.ext ex
          have bad : ∀ H'', Ext H H'' → (∀ qs, ds = qs.map pD → Upto L M e qs → False) → Q (.bl false) H'' := fun H'' kk no => k false H'' ⟨fun z => Bool.noConfusion z, fun ⟨qs, q1, q2⟩ => by
            injection q1 with q1
            exact (no qs q1 ⟨q2.bd, q2.asc, q2.nd, q2.fit⟩).elim⟩ kk
          have nxt : ∀ qs, ds = qs.map pD → Upto L M e qs → ∃ p, d = pD p ∧ (((0 ≤ p.1 ∧ p.1 < (L.length : Int)) ∧ 0 ≤ p.2 ∧ p.2 < (M.length : Int)) ∧ lastF ps < p.1 ∧ p.2 ∉ ps.map (·.2) ∧ FitP L M e p) := fun qs q1 q2 => by
            rw [q1, List.getElem?_map] at hd
            cases hq : qs[i]? with
            | none => rw [hq] at hd; cases hd
            | some p =>
              rw [hq] at hd
              cases hd
              refine ⟨p, rfl, next_ok q2 ?_ hq⟩
              rw [q1, ← List.map_take] at tk
              exact pD_inj tk
          have ho13 := ex _ _ ho1
          have ho23 := ex _ _ ho2
          obtain ⟨t3, ty3, kt3⟩ := td_isT tdd
          cases hd3 : isT d with
          | false =>
            rw [hd3] at kt3
            refine ⟨_, rfl, y, .ty "tuple", t3, .type "tuple", _, rfl, .ty _, ty3, kt3, _, rfl, ?_⟩
            exact iteT (iteT (bad _ ex fun qs q1 q2 => by
              obtain ⟨p, rfl, _⟩ := nxt qs q1 q2
              cases hd3))
          | true =>
            rw [hd3] at kt3
            cases tdd with
            | @tup c ys es hc lc tsc =>
              refine ⟨_, rfl, _, .ty "tuple", t3, .type "tuple", _, rfl, .ty _, ty3, kt3, _, rfl, ?_⟩
              refine iteF ⟨_, rfl, c, _, rfl, .inr (SqT.of hc), rfl, _, rfl, ?_⟩
              by_cases c2 : ys.length = 2
              · have dn : (!decide (V.int ((ys.length : Nat) : Int) = V.int 2)) = false := by rw [c2]; rfl
                refine ite2 (fun z => absurd (z.symm.trans dn) (by decide)) (fun _ => ?_)
                obtain ⟨x1, x2, d1, d2, rfl, rfl, t1, t2'⟩ := two_items tsc c2
                · skip
                  refine ⟨_, rfl, c, _, _, _, rfl, rfl, SqT.of hc, rfl, _, rfl, o1, _, rfl, .inl (SqL.of ho13), _, x1, rfl, TD.th t1, _, rfl, ?_⟩
                  rw [num_td t1]
                  cases n1 : numD (((as.map V.ref).length : Int) - 1) d1 with
                  | false =>
                    refine iteT (bad _ ex fun qs q1 q2 => ?_)
                    obtain ⟨p, hp, hp2⟩ := nxt qs q1 q2
                    unfold pD at hp
                    injection hp with hp
                    injection hp with hp _
                    subst hp
                    have : numD (((as.map V.ref).length : Int) - 1) (.int p.1) = true := numD_true.mpr ⟨_, rfl, hp2.1.1.1, by rw [List.length_map, la]; have := hp2.1.1.2; omega⟩
                    rw [this] at n1
                    cases n1
                  | true =>
                    obtain ⟨i1, rfl, i10, i11⟩ := numD_true.mp n1
                    cases t1
                    refine iteF ?_
                    refine ⟨_, rfl, c, _, _, _, rfl, rfl, SqT.of hc, rfl, _, rfl, o2, _, rfl, .inl (SqL.of ho23), _, x2, rfl, TD.th t2', _, rfl, ?_⟩
                    rw [num_td t2']
                    cases n2 : numD (((bs.map V.ref).length : Int) - 1) d2 with
                    | false =>
                      refine iteT (iteT (bad _ ex fun qs q1 q2 => ?_))
                      obtain ⟨p, hp, hp2⟩ := nxt qs q1 q2
                      unfold pD at hp
                      injection hp with hp
                      injection hp with _ hp
                      injection hp with hp _
                      subst hp
                      have : numD (((bs.map V.ref).length : Int) - 1) (.int p.2) = true := numD_true.mpr ⟨_, rfl, hp2.1.2.1, by rw [List.length_map, lb]; have := hp2.1.2.2; omega⟩
                      rw [this] at n2
                      cases n2
                    | true =>
                      obtain ⟨i2, rfl, i20, i21⟩ := numD_true.mp n2
                      cases t2'
                      rw [List.length_map, la] at i11
                      rw [List.length_map, lb] at i21
                      have nx2 : ∀ qs, ds = qs.map pD → Upto L M e qs → lastF ps < i1 ∧ i2 ∉ ps.map (·.2) ∧ FitP L M e (i1, i2) := fun qs q1 q2 => by
                        obtain ⟨p, hp, _, hp2⟩ := nxt qs q1 q2
                        unfold pD at hp
                        injection hp with hp
                        injection hp with h1 hp
                        injection hp with h2 _
                        injection h1 with h1
                        injection h2 with h2
                        subst h1 h2
                        exact hp2
                      refine iteF ⟨_, rfl, c, _, _, _, rfl, rfl, SqT.of hc, rfl, _, rfl, _, _, rfl, rfl, _, rfl, ?_⟩
                      refine ite2 (fun z => ?_) (fun z => ?_)
                      · refine iteT (bad _ ex fun qs q1 q2 => ?_)
                        have := (nx2 qs q1 q2).1
                        have := of_decide_eq_true z
                        omega
                      · have lt : lastF ps < i1 := by
                          have : ¬ i1 ≤ lastF ps := fun q => z (decide_eq_true q)
                          omega
                        refine ⟨_, rfl, c, _, _, _, rfl, rfl, SqT.of hc, rfl, _, rfl, u, _, rfl, .inl (SqL.of hu3), rfl, flat_ints _, _, rfl, ?_⟩
                        have ein : (if (false : Bool) = true then !inV (V.int i2) ((ps.map (·.2)).map V.int) else inV (V.int i2) ((ps.map (·.2)).map V.int)) = decide (i2 ∈ ps.map (·.2)) := inV_ints _ _
                        rw [ein]
                        refine ite2 (fun z2 => ?_) (fun z2 => ?_)
                        · exact bad _ ex fun qs q1 q2 => (nx2 qs q1 q2).2.1 (of_decide_eq_true z2)
                        · have nin : i2 ∉ ps.map (·.2) := fun q => z2 (decide_eq_true q)
                          have g1 : as[i1.toNat]? = some (as[i1.toNat]'(by omega)) := List.getElem?_eq_getElem _
                          have g2 : bs[i2.toNat]? = some (bs[i2.toNat]'(by omega)) := List.getElem?_eq_getElem _
                          obtain ⟨bu, hbu, but⟩ := bt1.get g1
                          obtain ⟨bv, hbv, bvt⟩ := bt2.get g2
                          have m1 : (as.map V.ref)[i1.toNat]? = some (.ref (as[i1.toNat]'(by omega))) := by rw [List.getElem?_map, g1]; rfl
                          have m2 : (bs.map V.ref)[i2.toNat]? = some (.ref (bs[i2.toNat]'(by omega))) := by rw [List.getElem?_map, g2]; rfl
                          have fp : FitP L M e (i1, i2) ↔ fitB bu bv e = true := by
                            unfold FitP
                            rw [List.getD_eq_getElem?_getD, hbu, List.getD_eq_getElem?_getD, hbv]
                            rfl
                          refine ⟨_, rfl, _, rfl, c, _, _, _, rfl, rfl, SqT.of hc, rfl, o1, _, _, _, rfl, rfl, SqL.of ho13, at_of (j := i1.toNat) (by omega) m1, ?_⟩
                          refine ⟨_, rfl, _, rfl, c, _, _, _, rfl, rfl, SqT.of hc, rfl, o2, _, _, _, rfl, rfl, SqL.of ho23, at_of (j := i2.toNat) (by omega) m2, ?_⟩
                          refine ⟨_, rfl, _, _, bu, bv, e, rfl, ex _ _ but, ex _ _ bvt, _, rfl, ?_⟩
                          cases hf : fitB bu bv e with
                          | false =>
                            refine iteT (bad _ ex fun qs q1 q2 => ?_)
                            have := fp.mp (nx2 qs q1 q2).2.2
                            rw [this] at hf
                            cases hf
                          | true =>
                            refine iteF ?_
                            have lx : ps.length < 1000 := by rw [lps]; omega
                            refine ⟨_, rfl, c, _, _, _, rfl, rfl, SqT.of hc, rfl, _, rfl, .inl ⟨rfl, _, SqL.of hu3⟩, _, rfl, c, _, _, _, rfl, rfl, SqT.of hc, rfl, u, _, _, rfl, rfl, hu3, small1000 (by rw [List.length_map, List.length_map]; exact Nat.le_of_lt lx), ?_⟩
                            refine ⟨ps ++ [(i1, i2)], some (.ref c), by rw [lastF_snoc]; rfl, ?_, by rw [List.length_append, lps]; rfl, up.snoc ⟨⟨i10, by omega⟩, i20, by omega⟩ lt nin (fp.mpr hf), fun b o hb => ?_, ?_⟩
                            · rw [List.take_succ, hd, tk, List.map_append]
                              rfl
                            · rw [upd_ne (ne_of_none hb nu)]
                              exact ex _ _ hb
                            · rw [upd_same, List.map_append, List.map_append]
                              rfl
              · have dn : (!decide (V.int ((ys.length : Nat) : Int) = V.int 2)) = true := by
                  rw [decI, decide_eq_false (by omega)]
                  rfl
                refine ite2 (fun _ => ?_) (fun z => absurd dn z)
                refine iteT (bad _ ex fun qs q1 q2 => ?_)
                obtain ⟨p, hp, _⟩ := nxt qs q1 q2
                unfold pD at hp
                injection hp with hp
                have := tsc.len
                rw [hp] at this
                exact c2 this
            | _ => cases hd3
        · rintro σ' H3 ⟨ps, v6, rfl, tk, lps, up, ex, hu3⟩
          have ld := ts.len
          rw [ld, List.take_of_length_le (Nat.le_refl _)] at tk
          subst tk
          have lenp : ps.length ≤ 1000 := by rw [lps]; exact len
          have ha3 := ex _ _ ha
          obtain ⟨cs, hcs, pt⟩ := PT.of (ts.ext ex)
          subst hcs
          have lc : cs.length = ps.length := Paired.length pt
          refine ⟨_, rfl, a, rfl, ⟨_, SqT.of ha3⟩, fun D4 nD4 => ?_⟩
          refine lc_gen (p := fun _ => true) walk_tup nD4 len (fun i y _ => y = V.int (ps.getD i (0, 0)).1) (fun _ _ _ _ _ z => z) (fun H' e => SqT.of (e _ _ ha3)) ?_ ?_
          · rintro i y H4 H' R N hi e4 ⟨rfl, hy⟩ hR _
            obtain ⟨c, hc, rfl⟩ := ref_get hy
            obtain ⟨p, hp, hct⟩ := paired_get pt hc
            refine ⟨rfl, tyes_in ⟨_, rfl, c, _, _, _, rfl, rfl, SqT.of (e4 _ _ hct), rfl, ?_⟩⟩
            exact hR rfl _ H' Ext.rfl' (by rw [List.getD_eq_getElem?_getD, hp]; rfl)
          intro ys H4 e4 hD4 pr4
          have ey := vals_of (f := fun i => V.int (ps.getD i (0, 0)).1) pr4
          rw [List.filter_eq_self.mpr fun _ _ => rfl, range_map (fun p : Int × Int => V.int p.1) (0, 0) (by rw [List.length_map, lc])] at ey
          subst ey
          have ex4 := ex.trans e4
          have hF : H4 D4 = some (.lst ((ps.map (·.1)).map V.int)) := by rw [List.map_map]; exact hD4
          have hU := e4 _ _ hu3
          have l20 : ∀ {X : List Bar} {zs : List Addr}, zs.length = X.length → Right X → (zs.map V.ref).length ≤ 1000 := fun {X zs} z r => by
            have := r.1
            rw [List.length_map]
            omega
          refine ⟨_, rfl, o1, _, rfl, SqL.of (ex4 _ _ ho1), fun D5 nD5 => ?_⟩
          refine lc_gen (p := fun i => !decide ((i : Int) ∈ ps.map (·.1))) walk_enum nD5 (l20 la rL) (fun i y _ => y = V.bl (!shortB (L.getD i (0, none)) e)) (fun _ _ _ _ _ z => z) (fun H' e => SqL.of (e _ _ (ex4 _ _ ho1))) ?_ ?_
          · rintro i z H5 H' R N hi e5 ⟨t5, u5, y, rfl, nt5, rfl, hu5, hy⟩ hR hN
            cases hu5
            obtain ⟨b, hb, rfl⟩ := ref_get hy
            obtain ⟨v, hv, hvt⟩ := bt1.get hb
            have x5 := Ext.upd (o := .tup [.int (i : Nat), .ref b]) nt5
            refine ⟨t5, _, rfl, SqT.of upd_same, rfl, _, _, rfl, _, _, rfl, rfl, rfl, ?_⟩
            refine ⟨_, rfl, _, rfl, D4, _, rfl, .inl (SqL.of (x5 _ _ (e5 _ _ hF))), rfl, flat_ints _, _, rfl, ?_⟩
            have ein : (if (true : Bool) = true then !inV (V.int (i : Int)) ((ps.map (·.1)).map V.int) else inV (V.int (i : Int)) ((ps.map (·.1)).map V.int)) = !decide ((i : Int) ∈ ps.map (·.1)) := by
              rw [if_pos rfl, inV_ints]
            rw [ein]
            cases hp : (!decide ((i : Int) ∈ ps.map (·.1))) with
            | true =>
              refine iteT ⟨_, rfl, _, rfl, b, v, e, rfl, x5 _ _ (e5 _ _ (ex4 _ _ hvt)), ?_⟩
              exact hR hp _ _ x5 (by rw [List.getD_eq_getElem?_getD, hv]; rfl)
            | false => exact iteF (hN hp _ x5)
          intro ys H5 e5 hD5 pr5
          have ey := vals_of (f := fun i => V.bl (!shortB (L.getD i (0, none)) e)) pr5
          subst ey
          have ex5 := ex4.trans e5
          have hD5' : H5 D5 = some (.lst ((((List.range L.length).filter fun i : Nat => !decide ((i : Int) ∈ ps.map (·.1))).map fun i => !shortB (L.getD i (0, none)) e).map V.bl)) := by
            rw [List.map_map, hD5, List.length_map, la]
            rfl
          refine ⟨D5, _, rfl, SqL.of hD5', anyLong L e (ps.map (·.1)), rfl, ?_⟩
          cases h5 : anyLong L e (ps.map (·.1)) with
          | true =>
            refine iteT (k false H5 ⟨fun z => Bool.noConfusion z, fun ⟨qs, q1, q2⟩ => ?_⟩ ex5)
            injection q1 with q1
            rw [← pD_inj q1] at q2
            rw [anyLong_false.mpr q2.c1] at h5
            cases h5
          | false =>
            refine iteF ?_
            refine ⟨_, rfl, o2, _, rfl, SqL.of (ex5 _ _ ho2), fun D6 nD6 => ?_⟩
            refine lc_gen (p := fun i => !decide ((i : Int) ∈ ps.map (·.2))) walk_enum nD6 (l20 lb rM) (fun i y _ => y = V.bl (!shortB (M.getD i (0, none)) e)) (fun _ _ _ _ _ z => z) (fun H' e => SqL.of (e _ _ (ex5 _ _ ho2))) ?_ ?_
            · rintro i z H6 H' R N hi e6 ⟨t6, u6, y, rfl, nt6, rfl, hu6, hy⟩ hR hN
              cases hu6
              obtain ⟨b, hb, rfl⟩ := ref_get hy
              obtain ⟨v, hv, hvt⟩ := bt2.get hb
              have x6 := Ext.upd (o := .tup [.int (i : Nat), .ref b]) nt6
              refine ⟨t6, _, rfl, SqT.of upd_same, rfl, _, _, rfl, _, _, rfl, rfl, rfl, ?_⟩
              refine ⟨_, rfl, _, rfl, u, _, rfl, .inl (SqL.of (x6 _ _ (e6 _ _ (e5 _ _ hU)))), rfl, flat_ints _, _, rfl, ?_⟩
              have ein : (if (true : Bool) = true then !inV (V.int (i : Int)) ((ps.map (·.2)).map V.int) else inV (V.int (i : Int)) ((ps.map (·.2)).map V.int)) = !decide ((i : Int) ∈ ps.map (·.2)) := by
                rw [if_pos rfl, inV_ints]
              rw [ein]
              cases hp : (!decide ((i : Int) ∈ ps.map (·.2))) with
              | true =>
                refine iteT ⟨_, rfl, _, rfl, b, v, e, rfl, x6 _ _ (e6 _ _ (ex5 _ _ hvt)), ?_⟩
                exact hR hp _ _ x6 (by rw [List.getD_eq_getElem?_getD, hv]; rfl)
              | false => exact iteF (hN hp _ x6)
            intro ys H6 e6 hD6 pr6
            have ey := vals_of (f := fun i => V.bl (!shortB (M.getD i (0, none)) e)) pr6
            subst ey
            have hD6' : H6 D6 = some (.lst ((((List.range M.length).filter fun i : Nat => !decide ((i : Int) ∈ ps.map (·.2))).map fun i => !shortB (M.getD i (0, none)) e).map V.bl)) := by
              rw [List.map_map, hD6, List.length_map, lb]
              rfl
            refine ⟨D6, _, rfl, SqL.of hD6', anyLong M e (ps.map (·.2)), rfl, ?_⟩
            refine k _ H6 ?_ (ex5.trans e6)
            rw [show ((!anyLong M e (ps.map (·.2))) = true) = (anyLong M e (ps.map (·.2)) = false) by simp, anyLong_false]
            constructor
            · intro c2
              exact ⟨ps, rfl, up.bd, up.asc, up.nd, up.fit, anyLong_false.mp h5, c2⟩
            · rintro ⟨qs, q1, q2⟩
              injection q1 with q1
              rw [← pD_inj q1] at q2
              exact q2.c2
      | _ => cases hd
end
end B46

set_option Elab.async false
set_option linter.all false
set_option maxRecDepth 100000
set_option maxHeartbeats 4000000
set_option pp.maxSteps 60
/-! What a ban is: the law's judge. -/
namespace B46
open PySem L2
abbrev sLBan : Stmt := top 37
def lastI (ns : List Int) : Int := ns.getLast?.getD (-1)
theorem lastI_snoc (ns : List Int) (n : Int) : lastI (ns ++ [n]) = n := by
  unfold lastI
  rw [List.getLast?_append]
  rfl
theorem lastI_all : ∀ {ns : List Int}, ns.Pairwise (· < ·) → ∀ p ∈ ns, p ≤ lastI ns := by
  intro ns
  refine snoc_ind (P := fun ns => ns.Pairwise (· < ·) → ∀ p ∈ ns, p ≤ lastI ns) (fun _ p h => nomatch h) (fun ns q ih h p hp => ?_) ns
  rw [lastI_snoc]
  rw [List.pairwise_append] at h
  rcases List.mem_append.mp hp with z | z
  · exact Int.le_of_lt (h.2.2 _ z _ (by simp))
  · rw [List.mem_singleton.mp z]
    exact Int.le_refl _
structure UptoI (B : List Bar) (e : Int) (ns : List Int) : Prop where
  bd : ∀ n ∈ ns, 0 ≤ n ∧ n < (B.length : Int)
  asc : ns.Pairwise (· < ·)
  long : ∀ n ∈ ns, shortB (B.getD n.toNat (0, none)) e = false
theorem UptoI.snoc {B : List Bar} {e : Int} {ns : List Int} {n : Int} (u : UptoI B e ns) (h1 : 0 ≤ n ∧ n < (B.length : Int)) (h2 : lastI ns < n) (h3 : shortB (B.getD n.toNat (0, none)) e = false) : UptoI B e (ns ++ [n]) := by
  refine ⟨fun q hq => ?_, ?_, fun q hq => ?_⟩
  · rcases List.mem_append.mp hq with z | z
    · exact u.bd q z
    · rw [List.mem_singleton.mp z]; exact h1
  · rw [List.pairwise_append]
    refine ⟨u.asc, List.pairwise_singleton _ _, fun a ha b hb => ?_⟩
    rw [List.mem_singleton] at hb
    subst hb
    have := lastI_all u.asc a ha
    omega
  · rcases List.mem_append.mp hq with z | z
    · exact u.long q z
    · rw [List.mem_singleton.mp z]; exact h3
theorem nextI {B : List Bar} {e : Int} {ns qs : List Int} {i : Nat} {p : Int} (h : UptoI B e qs) (e1 : (qs.take i) = ns) (e2 : qs[i]? = some p) : (0 ≤ p ∧ p < (B.length : Int)) ∧ lastI ns < p ∧ shortB (B.getD p.toNat (0, none)) e = false := by
  have hm := List.mem_of_getElem? e2
  have tk : qs.take (i + 1) = ns ++ [p] := by rw [List.take_succ, e1, e2]; rfl
  have a1 : (ns ++ [p]).Pairwise (· < ·) := by
    rw [← tk]
    exact h.asc.sublist (List.take_sublist _ _)
  refine ⟨h.bd p hm, ?_, h.long p hm⟩
  rw [List.pairwise_append] at a1
  cases hl : ns.getLast? with
  | none =>
    unfold lastI
    rw [hl]
    have := (h.bd p hm).1
    show (-1 : Int) < p
    omega
  | some q =>
    unfold lastI
    rw [hl]
    exact a1.2.2 q (List.mem_of_getLast? hl) p (by simp)
section
variable {P : Program} {w : World} {K : PySem.W.Frag} {mg : Str → Option Value} {base : Heap}
abbrev lbanN : List Str := ["_law_one", "_law_other", "_law_e", "_law_thing", "_law_here", "_law_there", "_law_last", "_law_met", "_law_at", "_law_fitting", "_law_bar_here", "_law_lone"]
theorem scLBan : FnScope lbanN ["_law_one", "_law_other", "_law_e", "_law_thing"] (defScope sLBan) := ⟨rfl, rfl, rfl, by decide +kernel, rfl, by decide +kernel, by decide +kernel⟩
theorem ok_lban {f : Addr} {fd : FuncData} (F : L2.Fun K "_law_is_ban" "_law_is_ban" sLBan f fd) (T : Gb mg) (nA : mg "any" = none) (cN : Cal P w K mg base 1 "_law_is_number" (spLNum K) []) (cF : Cal P w K mg base 1 "_law_fits" spFit []) (cL : Cal P w K mg base 1 "_law_is_long" spIsLong []) : FnOk P w K mg base CX0 2 f fd ["_law_one", "_law_other", "_law_e", "_law_thing"] (spBan K) := by
  refine F.ok scLBan (fun vs H Q E h => ?_) (fun cdv A outer s H vs Q E hr h => ?_)
  · obtain ⟨o1, o2, L, M, e, x, d, rfl, _⟩ := h
    rfl
  · obtain ⟨o1, o2, L, M, e, x, d, rfl, b1, b2, rL, rM, e0, e1, td, k⟩ := h
    refine ⟨_, C8.pss_cut (ps_if (PW.pt (pw_or (pt_not (pt_val (pe_callB call_isi (by rfl) T.isi (by decide +kernel) (pa_cons (pv 3) (pa_cons (pe_bltn (v := .ty "tuple") (by rfl) T.tup (by decide +kernel) rfl) pa_nil))))) (pw_or (pt_cmpR op_ne (pe_callB call_len_seq (by rfl) T.len PySem.boot_len (pa_cons (pv 3) pa_nil)) pe_int (nomark _)) (pw_or (pt_not (pt_val (C8.pe_c cN hr (by decide) (by rfl) (pa_cons (pe_ix ix_tup (pv 3) pe_int (fun _ _ => rfl)) (pa_cons pe_int pa_nil))))) (pw_or1 (pt_not (pt_val (pe_callB call_isi (by rfl) T.isi (by decide +kernel) (pa_cons (pe_ix ix_tup (pv 3) pe_int (fun _ _ => rfl)) (pa_cons (pe_bltn (v := .ty "tuple") (by rfl) T.tup (by decide +kernel) rfl) pa_nil)))))))))) (pss_one (ps_ret pe_bl)) pss_nil)
      (C8.pss_cut (ps_asg (pe_ifExp (pt_cmpR op_eq (pe_ix ix_tup (pv 3) pe_int (fun _ _ => rfl)) pe_int (nomark _)) (pe_tup (pa_cons (pv 0) (pa_cons (pv 1) pa_nil))) (pe_tup (pa_cons (pv 1) (pa_cons (pv 0) pa_nil)))) (pg_tup rfl (pgs_cons (pg_name (i := 4) scLBan.nd rfl (Or.inl rfl)) (pgs_cons (pg_name (i := 5) scLBan.nd rfl (Or.inl rfl)) pgs_nil))))
      (pss_cons (ps_asg (pe_tup (pa_cons (pe_un un_neg pe_int) (pa_cons (pe_lst pa_nil) pa_nil))) (pg_tup rfl (pgs_cons (pg_name (i := 6) scLBan.nd rfl (Or.inl rfl)) (pgs_cons (pg_name (i := 7) scLBan.nd rfl (Or.inr rfl)) pgs_nil))))
      (pss_cons (ps_for PassesOwn.never rfl (pi_tup (pe_ix ix_tup (pv 3) pe_int (fun _ _ => rfl))) (pg_name (i := 8) scLBan.nd rfl (Or.inl rfl))
      (pss_cons (ps_if (PW.pt (pw_or (pt_not (pt_val (C8.pe_c cN hr (by decide) (by rfl) (pa_cons (pv 8) (pa_cons (pe_callB call_len_seq (by rfl) T.len PySem.boot_len (pa_cons (pv 4) pa_nil)) pa_nil))))) (pw_or (pt_cmpR op_le (pv 8) (pv 6) (nomark _)) (pw_or1 (pt_not (pt_val (C8.pe_c cL hr (by decide) (by rfl) (pa_cons (pe_ix ix_list (pv 4) (pv 8) (fun _ _ => rfl)) (pa_cons (pv 2) pa_nil))))))))) (pss_one (ps_ret pe_bl)) pss_nil)
      (pss_cons (ps_set (i := 6) scLBan.nd rfl (Or.inl rfl) (pv 8))
      (pss_one (ps_expr (pe_bm PySem.F.plainAttrs_list PySem.F.slot_list_append PySem.F.type_list_append mt_append (pv 7) (pa_cons (pe_ix ix_list (pv 4) (pv 8) (fun _ _ => rfl)) pa_nil)))))))
      (pss_cons (ps_setLc (i := 9) (own := [("_law_bar_here", 10)]) (g := gName 10) rfl scLBan.nd rfl rfl (sw_true rfl rfl rfl (by decide +kernel)) (pi_list (pv 5)) (blkOk_by (N := lbanN) (sc := defScope sLBan) (by decide +kernel)) (fun _ _ _ _ _ => (pg_name (i := 10) scLBan.nd rfl (Or.inr rfl))) (fun _ _ _ _ _ => (pts_one (pt_val (pe_callB (r := rAny K) (cr_any rfl) (by rfl) nA (by decide +kernel) (pa_cons (pe_lc (own := [("_law_lone", 11)]) (g := gName 11) (tt := tYes) (wi := iList K (tVar 7)) rfl scLBan.nd (pi_list (pv 7)) (blkOk_by (by first | kernel_rfl | rfl)) (fun _ _ _ _ _ => (pg_name (i := 11) scLBan.nd rfl (Or.inl rfl))) (fun _ _ _ _ _ => pts_nil) (fun _ _ _ _ _ => (C8.pe_c cF hr (by decide) (by rfl) (pa_cons (pv 11) (pa_cons (pv 10) (pa_cons (pv 2) pa_nil)))))) pa_nil))))) (fun _ _ _ _ _ => (pv 10)))
      (pss_one (ps_ret (pe_cmpR op_lt (pe_callB call_len_seq (by rfl) T.len PySem.boot_len (pa_cons (pv 9) pa_nil)) (pe_callB call_len_seq (by rfl) T.len PySem.boot_len (pa_cons (pe_ix ix_tup (pv 3) pe_int (fun _ _ => rfl)) pa_nil)) (nomark _)))))))), ?_⟩
    refine ⟨fun σ' H' => ∃ (s1 : Int) (x2 : V) (es : List D) (a : Addr), d = .tup [.int s1, .tup es] ∧ (s1 = 0 ∨ s1 = 1) ∧ σ' = [some (.ref o1), some (.ref o2), some (.int e), some (.ref a), Option.none, Option.none, Option.none, Option.none, Option.none, Option.none, Option.none, Option.none] ∧ H' = H ∧ H a = some (.tup [.int s1, x2]) ∧ TD K H x2 (.tup es), ?_, ?_⟩
    · obtain ⟨t, ty, kt⟩ := td_isT td
      cases hd : isT d with
      | false =>
        rw [hd] at kt
        refine ⟨_, rfl, x, .ty "tuple", t, .type "tuple", _, rfl, .ty _, ty, kt, _, rfl, ?_⟩
        exact iteT (iteT (k false H ⟨fun z => Bool.noConfusion z, fun ⟨s1, ns, q, _⟩ => by rw [q] at hd; cases hd⟩ Ext.rfl'))
      | true =>
        rw [hd] at kt
        cases td with
        | @tup a xs ds ha len ts =>
          refine ⟨_, rfl, _, .ty "tuple", t, .type "tuple", _, rfl, .ty _, ty, kt, _, rfl, ?_⟩
          refine iteF ⟨_, rfl, a, _, rfl, .inr (SqT.of ha), rfl, _, rfl, ?_⟩
          by_cases c2 : xs.length = 2
          · have dn : (!decide (V.int ((xs.length : Nat) : Int) = V.int 2)) = false := by rw [c2]; rfl
            refine ite2 (fun z => absurd (z.symm.trans dn) (by decide)) (fun _ => ?_)
            obtain ⟨x1, x2, d1, d2, rfl, rfl, t1, t2⟩ := two_items ts c2
            refine ⟨_, rfl, a, _, _, _, rfl, rfl, SqT.of ha, rfl, _, x1, rfl, TD.th t1, _, rfl, ?_⟩
            rw [num_td t1]
            cases hn : numD (2 - 1) d1 with
            | false =>
              exact iteT (iteT (k false H ⟨fun z => Bool.noConfusion z, fun ⟨s1, ns, q, hs, _⟩ => by
                injection q with q
                injection q with q1 q2
                subst q1
                have : numD (2 - 1) (.int s1) = true := numD_true.mpr ⟨s1, rfl, by omega, by omega⟩
                rw [this] at hn
                cases hn⟩ Ext.rfl'))
            | true =>
              obtain ⟨i, rfl, i0, i1⟩ := numD_true.mp hn
              cases t1
              refine iteF ?_
              obtain ⟨t3, ty3, kt3⟩ := td_isT t2
              refine ⟨_, rfl, a, _, _, _, rfl, rfl, SqT.of ha, rfl, x2, .ty "tuple", t3, .type "tuple", _, rfl, .ty _, ty3, kt3, _, rfl, ?_⟩
              cases hd2 : isT d2 with
              | false =>
                exact iteT (k false H ⟨fun z => Bool.noConfusion z, fun ⟨s1, ns, q, hs, _⟩ => by
                  injection q with q
                  injection q with q1 q2
                  injection q2 with q2 _
                  rw [q2] at hd2
                  cases hd2⟩ Ext.rfl')
              | true =>
                cases d2 with
                | tup es => exact iteF ⟨i, x2, es, a, rfl, by omega, rfl, rfl, ha, t2⟩
                | _ => cases hd2
          · have nb : ¬ BanP L M e (.tup ds) := fun ⟨s1, ns, q, _⟩ => by
              injection q with q
              have := ts.len
              rw [q] at this
              exact c2 this
            have dn : (!decide (V.int ((xs.length : Nat) : Int) = V.int 2)) = true := by
              rw [decI, decide_eq_false (by omega)]
              rfl
            refine ite2 (fun _ => ?_) (fun z => absurd dn z)
            exact iteT (k false H ⟨fun z => Bool.noConfusion z, fun z => absurd z nb⟩ Ext.rfl')
        | _ => cases hd
    rintro σ' H1 ⟨s1, x2, es, a, rfl, hs, rfl, rfl, ha, td2⟩
    refine ⟨fun σ' H' => ∃ oB oO : Addr, σ' = [some (.ref o1), some (.ref o2), some (.int e), some (.ref a), some (.ref oB), some (.ref oO), Option.none, Option.none, Option.none, Option.none, Option.none, Option.none] ∧ Ext H1 H' ∧ BL H' oB (if s1 = 0 then L else M) ∧ BL H' oO (if s1 = 0 then M else L), ?_, ?_⟩
    · refine ⟨_, rfl, _, _, _, _, rfl, rfl, SqT.of ha, rfl, rfl, _, rfl, ?_⟩
      refine ite2 (fun z => ?_) (fun z => ?_)
      · have s0 : s1 = 0 := by have := of_decide_eq_true z; injection this
        refine ⟨_, rfl, _, rfl, by show 2 ≤ sizeLine; decide, fun t nt => ?_⟩
        have xt := Ext.upd (o := .tup [V.ref o1, V.ref o2]) nt
        refine ⟨t, _, rfl, SqT.of upd_same, rfl, _, _, rfl, _, _, rfl, rfl, o1, o2, rfl, xt, ?_, ?_⟩
        · rw [if_pos s0]; exact b1.ext xt
        · rw [if_pos s0]; exact b2.ext xt
      · have s0 : ¬ s1 = 0 := fun y => z (by rw [y]; exact decide_eq_true rfl)
        refine ⟨_, rfl, _, rfl, by show 2 ≤ sizeLine; decide, fun t nt => ?_⟩
        have xt := Ext.upd (o := .tup [V.ref o2, V.ref o1]) nt
        refine ⟨t, _, rfl, SqT.of upd_same, rfl, _, _, rfl, _, _, rfl, rfl, o2, o1, rfl, xt, ?_, ?_⟩
        · rw [if_neg s0]; exact b2.ext xt
        · rw [if_neg s0]; exact b1.ext xt
    rintro σ' H2 ⟨oB, oO, rfl, e2, hB, hO⟩
    have rB : Right (if s1 = 0 then L else M) := by
      by_cases z : s1 = 0
      · rw [if_pos z]; exact rL
      · rw [if_neg z]; exact rM
    have rO : Right (if s1 = 0 then M else L) := by
      by_cases z : s1 = 0
      · rw [if_pos z]; exact rM
      · rw [if_neg z]; exact rL
    have goal : ∀ (bb : Bool) (H' : Hp), (bb = true ↔ ∃ ns : List Int, es = ns.map .int ∧ BanOk (if s1 = 0 then L else M) (if s1 = 0 then M else L) e ns) → Ext H2 H' → Q (.bl bb) H' := fun bb H' h eh => by
      refine k bb H' (h.trans ⟨fun ⟨ns, q1, q2⟩ => ⟨s1, ns, by rw [q1], hs, q2⟩, fun ⟨s2, ns, q1, _, q2⟩ => ?_⟩) (e2.trans eh)
      injection q1 with q1
      injection q1 with q3 q4
      injection q3 with q3
      injection q4 with q4 _
      injection q4 with q4
      subst q3
      exact ⟨ns, q4, q2⟩
    generalize (if s1 = 0 then L else M) = B at *
    generalize (if s1 = 0 then M else L) = O at *
    have ha2 := e2 _ _ ha
    cases td2.ext e2 with
    | @tup q xs _ hq len ts =>
    obtain ⟨as, hoB, btB⟩ := hB
    obtain ⟨cs, hoO, btO⟩ := hO
    have lB : as.length = B.length := btB.len
    have lO : cs.length = O.length := btO.len
    have ld := ts.len
    refine ⟨_, rfl, Nat.zero_le _, fun u nu => ⟨by show 2 ≤ sizeLine; decide, fun t2 nt2 => ?_⟩⟩
    have xu := Ext.upd (o := .lst []) nu
    have xt2 := Ext.upd (o := .tup [V.int (-1), .ref u]) nt2
    refine ⟨t2, _, rfl, SqT.of upd_same, rfl, _, _, rfl, _, _, rfl, rfl, ?_⟩
    have e3 := xu.trans xt2
    have hu : (upd (upd H2 u (.lst [])) t2 (.tup [V.int (-1), .ref u])) u = some (.lst []) := xt2 _ _ upd_same
    generalize upd (upd H2 u (.lst [])) t2 (.tup [V.int (-1), .ref u]) = H3 at *
    have ha3 := e3 _ _ ha2
    have hq3 := e3 _ _ hq
    refine ⟨_, rfl, _, _, _, _, rfl, rfl, SqT.of ha3, rfl, q, rfl, ⟨_, SqT.of hq3⟩, ?_⟩
    refine for_it walk_tup (fun i σ' H' => ∃ (ns : List Int) (ms : List Addr) (v8 : Option V), σ' = [some (.ref o1), some (.ref o2), some (.int e), some (.ref a), some (.ref oB), some (.ref oO), some (.int (lastI ns)), some (.ref u), v8, Option.none, Option.none, Option.none] ∧ es.take i = ns.map .int ∧ ns.length = i ∧ UptoI B e ns ∧ Ext H2 H' ∧ H' u = some (.lst (ms.map V.ref)) ∧ Paired (fun m n => as[n.toNat]? = some m) ms ns)
      ⟨[], [], _, rfl, rfl, rfl, ⟨(fun _ h => nomatch h), List.Pairwise.nil, (fun _ h => nomatch h)⟩, e3, hu, .nil⟩ (fun i σ' H' _ ⟨_, _, _, _, _, _, _, ex, _⟩ => SqT.of (ex _ _ hq)) ?_ ?_
    · rintro i y σ' H4 H4' hi ⟨ns, ms, v8, rfl, tk, lns, up, ex, hu4, pm⟩ ⟨rfl, hy⟩
      obtain ⟨d, hd, tdd0⟩ := ts.get hy
      have tdd := tdd0.ext ex
      have bad : ∀ H'', Ext H2 H'' → (∀ qs, es = qs.map .int → UptoI B e qs → False) → Q (.bl false) H'' := fun H'' kk no => goal false H'' ⟨fun z => Bool.noConfusion z, fun ⟨qs, q1, q2⟩ => (no qs q1 ⟨q2.bd, q2.asc, q2.long⟩).elim⟩ kk
      have nxt : ∀ qs, es = qs.map .int → UptoI B e qs → ∃ p, d = .int p ∧ (0 ≤ p ∧ p < (B.length : Int)) ∧ lastI ns < p ∧ shortB (B.getD p.toNat (0, none)) e = false := fun qs q1 q2 => by
        rw [q1, List.getElem?_map] at hd
        cases hq : qs[i]? with
        | none => rw [hq] at hd; cases hd
        | some p =>
          rw [hq] at hd
          cases hd
          refine ⟨p, rfl, nextI q2 ?_ hq⟩
          rw [q1, ← List.map_take] at tk
          exact dint_inj tk
      have hoB4 := ex _ _ hoB
      refine ⟨_, rfl, _, rfl, oB, _, rfl, .inl (SqL.of hoB4), _, y, rfl, TD.th tdd, _, rfl, ?_⟩
      rw [num_td tdd]
      cases n1 : numD (((as.map V.ref).length : Int) - 1) d with
      | false =>
        refine iteT (iteT (bad _ ex fun qs q1 q2 => ?_))
        obtain ⟨p, rfl, hp2, _⟩ := nxt qs q1 q2
        have : numD (((as.map V.ref).length : Int) - 1) (.int p) = true := numD_true.mpr ⟨_, rfl, hp2.1, by rw [List.length_map, lB]; omega⟩
        rw [this] at n1
        cases n1
      | true =>
        obtain ⟨i1, rfl, i10, i11⟩ := numD_true.mp n1
        cases tdd
        rw [List.length_map, lB] at i11
        have nx2 : ∀ qs, es = qs.map .int → UptoI B e qs → lastI ns < i1 ∧ shortB (B.getD i1.toNat (0, none)) e = false := fun qs q1 q2 => by
          obtain ⟨p, hp, _, hp2⟩ := nxt qs q1 q2
          injection hp with hp
          subst hp
          exact hp2
        refine iteF ⟨_, rfl, _, rfl, _, _, rfl, rfl, _, rfl, ?_⟩
        refine ite2 (fun z => ?_) (fun z => ?_)
        · refine iteT (bad _ ex fun qs q1 q2 => ?_)
          have := (nx2 qs q1 q2).1
          have := of_decide_eq_true z
          omega
        · have lt : lastI ns < i1 := by
            have : ¬ i1 ≤ lastI ns := fun q => z (decide_eq_true q)
            omega
          have g1 : as[i1.toNat]? = some (as[i1.toNat]'(by omega)) := List.getElem?_eq_getElem _
          obtain ⟨bu, hbu, but⟩ := btB.get g1
          have m1 : (as.map V.ref)[i1.toNat]? = some (.ref (as[i1.toNat]'(by omega))) := by rw [List.getElem?_map, g1]; rfl
          have gu : B.getD i1.toNat (0, none) = bu := by rw [List.getD_eq_getElem?_getD, hbu]; rfl
          refine ⟨_, rfl, _, rfl, oB, _, _, _, rfl, rfl, SqL.of hoB4, at_of (j := i1.toNat) (by omega) m1, ?_⟩
          refine ⟨_, rfl, _, bu, e, rfl, ex _ _ but, _, rfl, ?_⟩
          cases hf : shortB bu e with
          | true =>
            refine iteT (bad _ ex fun qs q1 q2 => ?_)
            have := (nx2 qs q1 q2).2
            rw [gu, hf] at this
            cases this
          | false =>
            refine iteF ?_
            have lm : ms.length < 1000 := by rw [Paired.length pm, lns]; omega
            refine ⟨_, rfl, _, rfl, .inl ⟨rfl, _, SqL.of hu4⟩, _, rfl, _, rfl, oB, _, _, _, rfl, rfl, SqL.of hoB4, at_of (j := i1.toNat) (by omega) m1, u, _, _, rfl, rfl, hu4, small1000 (by rw [List.length_map]; exact Nat.le_of_lt lm), ?_⟩
            refine ⟨ns ++ [i1], ms ++ [as[i1.toNat]'(by omega)], some (.int i1), by rw [lastI_snoc]; rfl, ?_, by rw [List.length_append, lns]; rfl, up.snoc ⟨i10, by omega⟩ lt (by rw [gu]; exact hf), fun b o hb => ?_, ?_, Paired.snoc pm g1⟩
            · rw [List.take_succ, hd, tk, List.map_append]
              rfl
            · rw [upd_ne (ne_of_none hb nu)]
              exact ex _ _ hb
            · rw [upd_same, List.map_append]
              rfl
    · rintro σ' H4 ⟨ns, ms, v8, rfl, tk, lns, up, ex, hu4, pm⟩
      rw [ld, List.take_of_length_le (Nat.le_refl _)] at tk
      subst tk
      have lms : ms.length ≤ 1000 := by rw [Paired.length pm, lns]; exact len
      have hoO4 := ex _ _ hoO
      have btO4 : BT H4 cs O := btO.mono fun _ _ z => ex _ _ z
      have btB4 : BT H4 as B := btB.mono fun _ _ z => ex _ _ z
      refine ⟨_, rfl, oO, rfl, ⟨_, SqL.of hoO4⟩, fun D5 nD5 => ?_⟩
      refine lc_gen (p := fun i => fitsB B e ns (O.getD i (0, none))) walk_list nD5 (by rw [List.length_map]; have := rO.1; omega) (fun _ _ _ => True) (fun _ _ _ _ _ z => z) (fun H' e => SqL.of (e _ _ hoO4)) ?_ ?_
      · rintro i y H5 H' R N hi e5 ⟨rfl, hy⟩ hR hN
        obtain ⟨c, hc, rfl⟩ := ref_get hy
        obtain ⟨v, hv, hvt⟩ := btO4.get hc
        have hgv : O.getD i (0, none) = v := by rw [List.getD_eq_getElem?_getD, hv]; rfl
        rw [hgv] at hR hN
        refine ⟨rfl, ?_⟩
        refine ⟨_, rfl, u, rfl, ⟨_, SqL.of (e5 _ _ hu4)⟩, fun D6 nD6 => ?_⟩
        refine lc_gen (p := fun _ => true) walk_list nD6 (by rw [List.length_map]; exact lms) (fun i y _ => y = V.bl (fitB (B.getD (ns.getD i 0).toNat (0, none)) v e)) (fun _ _ _ _ _ z => z) (fun H' e => SqL.of (e _ _ (e5 _ _ hu4))) ?_ ?_
        · rintro j z H6 H'' R2 N2 hj e6 ⟨rfl, hz⟩ hR2 _
          obtain ⟨m, hm, rfl⟩ := ref_get hz
          obtain ⟨n, hn, hmn⟩ := paired_get pm hm
          obtain ⟨bu, hbu, but⟩ := btB4.get hmn
          refine ⟨rfl, tyes_in ⟨_, rfl, _, rfl, _, rfl, m, c, bu, v, e, rfl, e6 _ _ (e5 _ _ but), e6 _ _ (e5 _ _ hvt), ?_⟩⟩
          exact hR2 rfl _ H'' Ext.rfl' (by rw [List.getD_eq_getElem?_getD (l := ns), hn]; show _ = V.bl (fitB (B.getD n.toNat _) v e); rw [List.getD_eq_getElem?_getD, hbu]; rfl)
        intro zs H6 e6 hD6 pr6
        have ez := flags_of (t := fun i => fitB (B.getD (ns.getD i 0).toNat (0, none)) v e) pr6
        rw [range_map (fun n : Int => fitB (B.getD n.toNat (0, none)) v e) 0 (by rw [List.length_map, Paired.length pm])] at ez
        subst ez
        refine ⟨D6, _, rfl, SqL.of hD6, fitsB B e ns v, rfl, ?_⟩
        cases hf : fitsB B e ns v with
        | true => exact iteT ⟨_, rfl, hR hf _ H6 e6 True.intro⟩
        | false => exact iteF (hN hf H6 e6)
      intro ys H5 e5 hD5 pr5
      have ly : ys.length = (O.filter (fitsB B e ns)).length := by
        rw [← Paired.length pr5, filter_len (fitsB B e ns) (0, none) (by rw [List.length_map, lO])]
      have ex5 := ex.trans e5
      refine ⟨_, rfl, D5, _, rfl, .inl (SqL.of hD5), _, rfl, _, _, _, _, rfl, rfl, SqT.of (ex5 _ _ ha2), rfl, q, _, rfl, .inr (SqT.of (ex5 _ _ hq)), _, _, rfl, rfl, ?_⟩
      refine goal _ H5 ?_ ex5
      rw [decide_eq_true_iff, ly, ← lns]
      constructor
      · intro z
        exact ⟨ns, rfl, up.bd, up.asc, up.long, by omega⟩
      · rintro ⟨qs, q1, q2⟩
        rw [← dint_inj q1] at q2
        have := q2.few
        omega
end
end B46

set_option Elab.async false
set_option linter.all false
set_option maxRecDepth 100000
set_option maxHeartbeats 4000000
set_option pp.maxSteps 60
/-! Bar lists drawn. -/
namespace B46
open PySem L2
abbrev sLBar : Stmt := top 32
abbrev sMoved : Stmt := top 33
abbrev sLists : Stmt := top 34
def spLBar : Sp := fun vs H Q _ => ∃ (r c : Addr) (w : Int), vs = [.ref r, .int w] ∧ BagAt H r c ∧ 1 ≤ w ∧ w ≤ 1000 ∧ ∀ (a : Addr) (b : Bar) (H' : Hp), Go r c H H' → H' a = some (.tup (barL b)) → okBar b → Q (.ref a) H'
def spMoved : Sp := fun vs H Q _ => ∃ (r c p : Addr) (x : Bar) (w : Int), vs = [.ref r, .ref p, .int w] ∧ BagAt H r c ∧ H p = some (.tup (barL x)) ∧ 1 ≤ w ∧ w ≤ 1000 ∧ ∀ (a : Addr) (b : Bar) (H' : Hp), Go r c H H' → H' a = some (.tup (barL b)) → okBar b → Q (.ref a) H'
def spLists : Sp := fun vs H Q _ => ∃ (r c : Addr) (w : Int) (m : Nat), vs = [.ref r, .int w, .int (m : Int)] ∧ BagAt H r c ∧ 1 ≤ w ∧ w ≤ 1000 ∧ m ≤ 20 ∧ ∀ (t o1 o2 : Addr) (L M : List Bar) (H' : Hp), Go r c H H' → H' t = some (.tup [.ref o1, .ref o2]) → BL (Off r c H') o1 L → BL (Off r c H') o2 M → L.length ≤ m → M.length ≤ m → (∀ b ∈ L, okBar b) → (∀ b ∈ M, okBar b) → Q (.ref t) H'
theorem BT.off {r c : Addr} {H : Hp} (p : BagAt H r c) : ∀ {as : List Addr} {L : List Bar}, BT H as L → BT (Off r c H) as L
  | _, _, .nil => .nil
  | _, _, .cons h t => .cons (off_tup p h) (BT.off p t)
theorem BT.go {r c : Addr} {H H' : Hp} (p : BagAt H r c) (g : Go r c H H') {as : List Addr} {L : List Bar} (h : BT H as L) : BT H' as L := Paired.imp' (fun _ _ z => g.tup p z) h
theorem BT.ins {S : Hp} {a : Addr} {b : Bar} (h : S a = some (.tup (barL b))) : ∀ {as : List Addr} {L : List Bar} (n : Nat), BT S as L → BT S (as.take n ++ [a] ++ as.drop n) (L.take n ++ [b] ++ L.drop n)
  | _, _, 0, r => .cons h r
  | _, _, n + 1, .nil => .cons h .nil
  | _, _, n + 1, .cons x r => .cons x (BT.ins h n r)
theorem TExt.bt {S S' : Hp} (e : TExt S S') {as : List Addr} {L : List Bar} (h : BT S as L) : BT S' as L := Paired.imp' (fun _ _ z => e _ _ z) h
theorem ins_mem {L : List Bar} {b x : Bar} {n : Nat} (h : x ∈ L.take n ++ [b] ++ L.drop n) : x = b ∨ x ∈ L := by
  rcases List.mem_append.mp h with h | h
  · rcases List.mem_append.mp h with h | h
    · exact .inr (List.mem_of_mem_take h)
    · exact .inl (List.mem_singleton.mp h)
  · exact .inr (List.mem_of_mem_drop h)
theorem ins_len {α : Type} {L : List α} {b : α} {n : Nat} : (L.take n ++ [b] ++ L.drop n).length = L.length + 1 := by
  simp only [List.length_append, List.length_take, List.length_drop, List.length_singleton]
  omega
section
variable {P : Program} {w : World} {K : PySem.W.Frag} {mg : Str → Option Value} {base : Heap}
theorem scLBar : FnScope ["_law_bag_here", "_law_wide", "_law_born"] ["_law_bag_here", "_law_wide"] (defScope sLBar) := ⟨rfl, rfl, rfl, by decide +kernel, rfl, by decide +kernel, by decide +kernel⟩
theorem ok_lbar {f : Addr} {fd : FuncData} (F : L2.Fun K "_law_bar" "_law_bar" sLBar f fd) (T : Gb mg) (cP : Cal P w K mg base 1 "_law_pick" spPick []) (cS : Cal P w K mg base 2 "_law_some" spSome []) : FnOk P w K mg base CX0 3 f fd ["_law_bag_here", "_law_wide"] spLBar := by
  refine F.ok scLBar (fun vs H Q E h => ?_) (fun cdv A outer s H vs Q E hr h => ?_)
  · obtain ⟨r, c, w, rfl, _⟩ := h
    rfl
  · obtain ⟨r, c, w, rfl, bag, w1, w2, k⟩ := h
    refine ⟨_, pss_cons (ps_set (i := 2) scLBar.nd rfl (Or.inl rfl) (pe_op op_sub (C8.pe_c cP hr (by decide) (by rfl) (pa_cons (pv 0) (pa_cons (pe_op op_add (pe_op op_mul pe_int (pv 1)) pe_int) pa_nil))) (pv 1)))
      (pss_cons (ps_if (PW.pt (pw_or (pt_cmpR op_eq (C8.pe_c cP hr (by decide) (by rfl) (pa_cons (pv 0) (pa_cons pe_int pa_nil))) pe_int (nomark _)) (pw_or1 (pt_cmpR op_eq (pv 2) (pv 1) (nomark _))))) (pss_one (ps_ret (pe_tup (pa_cons (pe_callB (call_min2 rfl) (by rfl) T.min (by decide +kernel) (pa_cons (pv 2) (pa_cons pe_int pa_nil))) (pa_cons pe_non pa_nil))))) pss_nil)
      (pss_one (ps_ret (pe_tup (pa_cons (pv 2) (pa_cons (pe_op op_add (pe_op op_add (pv 2) pe_int) (C8.pe_c cP hr (by decide) (by rfl) (pa_cons (pv 0) (pa_cons (pe_callB (call_min2 rfl) (by rfl) T.min (by decide +kernel) (pa_cons (pe_op op_sub (pv 1) (pv 2)) (pa_cons (pe_op op_add pe_int (C8.pe_c cS hr (by decide) (by rfl) (pa_cons (pv 0) (pa_cons (pe_lst (pa_cons pe_int (pa_cons pe_int (pa_cons (pe_op op_mul pe_int (pv 1)) pa_nil)))) pa_nil)))) pa_nil))) pa_nil)))) pa_nil)))))), ?_⟩
    refine ⟨_, rfl, _, rfl, _, _, rfl, rfl, .inl ⟨by decide, by decide⟩, _, _, rfl, rfl, r, c, _, rfl, bag, by omega, by omega, fun n H1 n0 n1 g1 => ?_⟩
    refine ⟨_, rfl, _, _, rfl, rfl, ?_⟩
    refine ⟨_, rfl, r, c, 4, rfl, g1.1, by decide, by decide, fun z H2 z0 z1 g2 => ?_⟩
    have g12 := g1.trans g2
    have fin : ∀ b : Bar, okBar b → ∀ (a : Addr), H2 a = none → Q (.ref a) (upd H2 a (.tup (barL b))) := fun b ok a na => k a b _ (g12.trans (Go.new g2.1 na)) upd_same ok
    have first : ∀ a : Addr, H2 a = none → Q (.ref a) (upd H2 a (.tup [.int (if 999 < n - w then 999 else n - w), .non])) := fun a na => fin (if 999 < n - w then 999 else n - w, none) ⟨by show -1000 ≤ (if 999 < n - w then 999 else n - w); split <;> omega, by show (if 999 < n - w then 999 else n - w) ≤ 1000; split <;> omega, fun g hg => nomatch hg⟩ a na
    refine ⟨rfl, _, rfl, ?_⟩
    refine ite2 (fun q => ?_) (fun q => ?_)
    · refine iteT ⟨_, rfl, _, _, rfl, by show 2 ≤ sizeLine; decide, fun a na => first a na⟩
    · refine ⟨_, rfl, _, rfl, rfl, _, rfl, ?_⟩
      refine ite2 (fun q2 => ?_) (fun q2 => ?_)
      · exact ⟨_, rfl, _, _, rfl, by show 2 ≤ sizeLine; decide, fun a na => first a na⟩
      · have nw : n - w ≠ w := fun e => q2 (by show decide (V.int (n - w) = V.int w) = true; rw [e]; exact decide_eq_true rfl)
        have bw : n - w < w := by omega
        refine ⟨_, rfl, _, rfl, _, _, rfl, rfl, _, rfl, _, rfl, _, rfl, _, _, rfl, rfl, _, rfl, _, rfl, _, _, rfl, rfl, .inl ⟨by decide, by decide⟩, by show 3 ≤ sizeLine; decide, fun l nl => ?_⟩
        have nla := g2.1.ne nl
        have gl := Go.new (o := .lst [.int 2, .int 6, .int (2 * w)]) g2.1 nl
        refine ⟨r, c, l, _, rfl, gl.1, nla.1, nla.2, upd_same, by simp, by show 3 ≤ 1000; decide, fun x H3 hx g3 => ?_⟩
        have hxi : ∃ i : Int, x = .int i ∧ 2 ≤ i ∧ i ≤ 2000 := by
          simp only [List.mem_cons, List.not_mem_nil, or_false] at hx
          rcases hx with rfl | rfl | rfl
          · exact ⟨_, rfl, by omega, by omega⟩
          · exact ⟨_, rfl, by omega, by omega⟩
          · exact ⟨_, rfl, by omega, by omega⟩
        obtain ⟨i, rfl, i0, i1⟩ := hxi
        refine ⟨_, _, rfl, rfl, _, _, rfl, ?_⟩
        have m0 : 0 < (if 1 + i < w - (n - w) then 1 + i else w - (n - w)) := by split <;> omega
        have m1 : (if 1 + i < w - (n - w) then 1 + i else w - (n - w)) ≤ w - (n - w) := by split <;> omega
        generalize (if 1 + i < w - (n - w) then 1 + i else w - (n - w)) = m at *
        refine ⟨r, c, m, rfl, g3.1, m0, by omega, fun y H4 y0 y1 g4 => ⟨_, _, rfl, rfl, by show 2 ≤ sizeLine; decide, fun a na => ?_⟩⟩
        exact k a (n - w, some (n - w + 1 + y)) _ ((((g12.trans gl).trans g3).trans g4).trans (Go.new g4.1 na)) upd_same ⟨by show -1000 ≤ n - w; omega, by show n - w ≤ 1000; omega, fun g hg => by cases hg; show n - w < n - w + 1 + y ∧ n - w + 1 + y ≤ 1000; omega⟩
theorem scMoved : FnScope ["_law_bag_here", "_law_bar_here", "_law_wide", "_law_born"] ["_law_bag_here", "_law_bar_here", "_law_wide"] (defScope sMoved) := ⟨rfl, rfl, rfl, by decide +kernel, rfl, by decide +kernel, by decide +kernel⟩
theorem ok_moved {f : Addr} {fd : FuncData} (F : L2.Fun K "_law_moved" "_law_moved" sMoved f fd) (T : Gb mg) (cP : Cal P w K mg base 1 "_law_pick" spPick []) : FnOk P w K mg base CX0 2 f fd ["_law_bag_here", "_law_bar_here", "_law_wide"] spMoved := by
  refine F.ok scMoved (fun vs H Q E h => ?_) (fun cdv A outer s H vs Q E hr h => ?_)
  · obtain ⟨r, c, p, x, w, rfl, _⟩ := h
    rfl
  · obtain ⟨r, c, p, ⟨x1, x2⟩, w, rfl, bag, hp, w1, w2, k⟩ := h
    refine ⟨_, C8.pss_cut (ps_set (i := 3) scMoved.nd rfl (Or.inl rfl) (pe_callB (call_max2 rfl) (by rfl) T.max (by decide +kernel) (pa_cons (pe_un un_neg (pv 2)) (pa_cons (pe_callB (call_min2 rfl) (by rfl) T.min (by decide +kernel) (pa_cons (pe_op op_sub (pv 2) pe_int) (pa_cons (pe_op op_sub (pe_op op_add (pe_ix ix_tup (pv 1) pe_int (fun _ _ => rfl)) (C8.pe_c cP hr (by decide) (by rfl) (pa_cons (pv 0) (pa_cons pe_int pa_nil)))) pe_int) pa_nil))) pa_nil))))
      (pss_cons (ps_if (pt_cmpR op_isN (pe_ix ix_tup (pv 1) pe_int (fun _ _ => rfl)) pe_non (nomark _)) (pss_one (ps_ret (pe_tup (pa_cons (pv 3) (pa_cons pe_non pa_nil))))) pss_nil)
      (pss_one (ps_ret (pe_tup (pa_cons (pv 3) (pa_cons (pe_callB (call_max2 rfl) (by rfl) T.max (by decide +kernel) (pa_cons (pe_op op_add (pv 3) pe_int) (pa_cons (pe_callB (call_min2 rfl) (by rfl) T.min (by decide +kernel) (pa_cons (pv 2) (pa_cons (pe_op op_sub (pe_op op_add (pe_ix ix_tup (pv 1) pe_int (fun _ _ => rfl)) (C8.pe_c cP hr (by decide) (by rfl) (pa_cons (pv 0) (pa_cons pe_int pa_nil)))) pe_int) pa_nil))) pa_nil))) pa_nil)))))), ?_⟩
    refine ⟨fun σ' H' => ∃ b : Int, σ' = [some (.ref r), some (.ref p), some (.int w), some (.int b)] ∧ Go r c H H' ∧ -w ≤ b ∧ b ≤ w - 1, ?_, ?_⟩
    · refine ⟨_, rfl, _, rfl, _, rfl, _, _, rfl, rfl, _, rfl, p, _, _, _, rfl, rfl, SqT.of hp, rfl, _, rfl, r, c, 5, rfl, bag, by decide, by decide, fun n H1 n0 n1 g1 => ?_⟩
      refine ⟨_, _, rfl, rfl, _, _, rfl, rfl, _, _, rfl, _, _, rfl, ?_⟩
      refine ⟨_, rfl, g1, ?_, ?_⟩
      · split <;> split <;> omega
      · split <;> split <;> omega
    rintro σ' H1 ⟨b, rfl, g1, b1, b2⟩
    have hp1 := g1.tup bag hp
    cases x2 with
    | none =>
      refine ⟨_, rfl, _, _, _, _, rfl, rfl, SqT.of hp1, rfl, rfl, _, rfl, iteT ?_⟩
      exact ⟨_, rfl, by show 2 ≤ sizeLine; decide, fun a na => k a (b, none) _ (g1.trans (Go.new g1.1 na)) upd_same ⟨by show -1000 ≤ b; omega, by show b ≤ 1000; omega, fun g hg => nomatch hg⟩⟩
    | some g0 =>
      refine ⟨_, rfl, _, _, _, _, rfl, rfl, SqT.of hp1, rfl, rfl, _, rfl, iteF ?_⟩
      refine ⟨_, rfl, _, rfl, _, _, rfl, rfl, _, rfl, _, rfl, _, _, _, _, rfl, rfl, SqT.of hp1, rfl, _, rfl, r, c, 5, rfl, g1.1, by decide, by decide, fun n H2 n0 n1 g2 => ?_⟩
      refine ⟨_, _, rfl, rfl, _, _, rfl, rfl, _, _, rfl, _, _, rfl, by show 2 ≤ sizeLine; decide, fun a na => ?_⟩
      refine k a (b, some _) _ ((g1.trans g2).trans (Go.new g2.1 na)) upd_same ⟨by show -1000 ≤ b; omega, by show b ≤ 1000; omega, fun g hg => ?_⟩
      cases hg
      constructor
      · split <;> split <;> omega
      · split <;> split <;> omega
abbrev listsN : List Str := ["_law_bag_here", "_law_wide", "_law_most", "_law_one", "_law_other", "_law_bar_here", "_law_turn"]
theorem scLists : FnScope listsN ["_law_bag_here", "_law_wide", "_law_most"] (defScope sLists) := ⟨rfl, rfl, rfl, by decide +kernel, rfl, by decide +kernel, by decide +kernel⟩
theorem ok_lists {f : Addr} {fd : FuncData} (F : L2.Fun K "_law_lists" "_law_lists" sLists f fd) (T : Gb mg) (cP : Cal P w K mg base 1 "_law_pick" spPick []) (cB : Cal P w K mg base 3 "_law_bar" spLBar []) (cM : Cal P w K mg base 2 "_law_moved" spMoved []) : FnOk P w K mg base CX0 4 f fd ["_law_bag_here", "_law_wide", "_law_most"] spLists := by
  refine F.ok scLists (fun vs H Q E h => ?_) (fun cdv A outer s H vs Q E hr h => ?_)
  · obtain ⟨r, c, w, m, rfl, _⟩ := h
    rfl
  · obtain ⟨r, c, w, m, rfl, bag, w1, w2, m20, k⟩ := h
    refine ⟨_, C8.pss_cut (ps_setLc (i := 3) (own := [("_law_turn", 6)]) (g := gName 6) (tt := tYes) rfl scLists.nd rfl rfl (sw_true rfl rfl rfl (by decide +kernel)) (pi_range1 (by rfl) T.rng (pa_cons (C8.pe_c cP hr (by decide) (by rfl) (pa_cons (pv 0) (pa_cons (pe_op op_add (pv 2) pe_int) pa_nil))) pa_nil)) (blkOk_by (N := listsN) (sc := defScope sLists) (by decide +kernel)) (fun _ _ _ _ _ => (pg_name (i := 6) scLists.nd rfl (Or.inl rfl))) (fun _ _ _ _ _ => pts_nil) (fun _ _ _ _ _ => (C8.pe_c cB hr (by decide) (by rfl) (pa_cons (pv 0) (pa_cons (pv 1) pa_nil)))))
      (pss_cons (ps_set (i := 4) scLists.nd rfl (Or.inl rfl) (pe_lst pa_nil))
      (C8.pss_cut (ps_for PassesOwn.never rfl (pi_list (pv 3)) (pg_name (i := 5) scLists.nd rfl (Or.inl rfl))
      (pss_one (ps_if (pt_cmpR op_gt (C8.pe_c cP hr (by decide) (by rfl) (pa_cons (pv 0) (pa_cons pe_int pa_nil))) pe_int (nomark _)) (pss_one (ps_expr (pe_bm PySem.F.plainAttrs_list PySem.F.slot_list_insert PySem.F.type_list_insert mt_insert (pv 4) (pa_cons (C8.pe_c cP hr (by decide) (by rfl) (pa_cons (pv 0) (pa_cons (pe_op op_add (pe_callB call_len_seq (by rfl) T.len PySem.boot_len (pa_cons (pv 4) pa_nil)) pe_int) pa_nil))) (pa_cons (C8.pe_c cM hr (by decide) (by rfl) (pa_cons (pv 0) (pa_cons (pv 5) (pa_cons (pv 1) pa_nil)))) pa_nil))))) pss_nil)))
      (C8.pss_cut (ps_while PassesOwn.never (PW.pt (pw_and (pt_cmpR op_lt (pe_callB call_len_seq (by rfl) T.len PySem.boot_len (pa_cons (pv 4) pa_nil)) (pv 2) (nomark _)) (pw_and1 (pt_cmpR op_eq (C8.pe_c cP hr (by decide) (by rfl) (pa_cons (pv 0) (pa_cons pe_int pa_nil))) pe_int (nomark _)))))
      (pss_one (ps_expr (pe_bm PySem.F.plainAttrs_list PySem.F.slot_list_append PySem.F.type_list_append mt_append (pv 4) (pa_cons (C8.pe_c cB hr (by decide) (by rfl) (pa_cons (pv 0) (pa_cons (pv 1) pa_nil))) pa_nil)))))
      (pss_one (ps_ret (pe_tup (pa_cons (pv 3) (pa_cons (pv 4) pa_nil)))))))), ?_⟩
    refine ⟨fun σ' H' => ∃ (o1 : Addr) (L : List Bar), σ' = [some (.ref r), some (.int w), some (.int (m : Int)), some (.ref o1), Option.none, Option.none, Option.none] ∧ Go r c H H' ∧ BL (Off r c H') o1 L ∧ L.length ≤ m ∧ ∀ b ∈ L, okBar b, ?_, ?_⟩
    · refine ⟨_, rfl, _, rfl, _, _, rfl, rfl, r, c, _, rfl, bag, by omega, by omega, fun n H1 n0 n1 g1 => ⟨n, rfl, by omega, by omega, fun D nD => ?_⟩⟩
      have nDa := g1.1.ne nD
      refine lc_range (lo := 0) (n := n.toNat) (fun j H2 => Go r c H1 H2 ∧ ∃ (as : List Addr) (L : List Bar), H2 D = some (.lst (as.map V.ref)) ∧ BT H2 as L ∧ L.length ≤ j ∧ ∀ b ∈ L, okBar b) ⟨Go.new g1.1 nD, [], [], upd_same, .nil, Nat.le_refl _, (fun _ h => nomatch h)⟩ ?_ ?_
      · rintro j H2 hj ⟨g2, as, L, hD, bt, lj, ok⟩
        refine ⟨rfl, tyes_in ⟨_, rfl, _, rfl, r, c, w, rfl, g2.1, w1, w2, fun a b H3 g3 ha ob => ?_⟩⟩
        have hD3 := g3.2 _ _ nDa.1 nDa.2 hD
        have tx : TExt H3 (upd H3 D (.lst (as.map V.ref ++ [.ref a]))) := TExt.put hD3
        have lb := bt.len
        refine ⟨_, hD3, small1000 (by rw [List.length_map]; omega), Go.put g1.1 (g2.trans g3) nD, as ++ [a], L ++ [b], by rw [upd_same, List.map_append]; rfl, Paired.snoc (tx.bt (bt.go g2.1 g3)) (tx _ _ ha), by rw [List.length_append]; exact Nat.succ_le_succ lj, fun x hx => ?_⟩
        rcases List.mem_append.mp hx with z | z
        · exact ok x z
        · rw [List.mem_singleton.mp z]; exact ob
      · rintro H2 ⟨g2, as, L, hD, bt, lj, ok⟩
        exact ⟨D, L, rfl, g1.trans g2, ⟨as, off_at nDa hD, bt.off g2.1⟩, by omega, ok⟩
    rintro σ' H1 ⟨o1, L, rfl, g1, ⟨as, ho1, bt1⟩, lL, okL⟩
    obtain ⟨no1a, no1c, ho1'⟩ := off_some ho1
    have la : as.length = L.length := bt1.len
    refine ⟨Nat.zero_le _, fun u nu => ?_⟩
    have nua := g1.1.ne nu
    have gu := Go.new (o := .lst []) g1.1 nu
    have nou : o1 ≠ u := fun q => by rw [q, nu] at ho1'; cases ho1'
    refine ⟨fun σ' H' => ∃ (v5 : Option V) (bs : List Addr) (M : List Bar), σ' = [some (.ref r), some (.int w), some (.int (m : Int)), some (.ref o1), some (.ref u), v5, Option.none] ∧ Go r c H1 H' ∧ H' u = some (.lst (bs.map V.ref)) ∧ BT H' bs M ∧ M.length ≤ m ∧ ∀ b ∈ M, okBar b, ?_, ?_⟩
    · refine ⟨_, rfl, o1, rfl, ⟨_, SqL.of (gu.2 _ _ no1a no1c ho1')⟩, ?_⟩
      refine for_list (K := K) (a := o1) (xs := as.map V.ref) (fun i σ' H' => ∃ (v5 : Option V) (bs : List Addr) (M : List Bar), σ' = [some (.ref r), some (.int w), some (.int (m : Int)), some (.ref o1), some (.ref u), v5, Option.none] ∧ Go r c H1 H' ∧ H' u = some (.lst (bs.map V.ref)) ∧ BT H' bs M ∧ M.length ≤ i ∧ ∀ b ∈ M, okBar b)
        ⟨_, [], [], rfl, gu, upd_same, .nil, Nat.le_refl _, (fun _ h => nomatch h)⟩ (fun i σ' H' _ ⟨_, _, _, _, g, _⟩ => SqL.of (g.2 _ _ no1a no1c ho1')) ?_ ?_
      · rintro i y σ' H2 hy ⟨v5, bs, M, rfl, g2, hu, bt, lM, okM⟩
        obtain ⟨p, hp, rfl⟩ := ref_get hy
        obtain ⟨x, hx, hxt⟩ := bt1.get hp
        have hp2 := g2.tup g1.1 ((off_some hxt).2.2)
        have li := (List.getElem?_eq_some_iff.mp hp).1
        have lbs := bt.len
        refine ⟨_, rfl, r, c, 6, rfl, g2.1, by decide, by decide, fun z H3 z0 z1 g3 => ⟨_, _, rfl, rfl, _, rfl, ?_⟩⟩
        have hu3 := g3.2 _ _ nua.1 nua.2 hu
        refine ite2 (fun _ => ?_) (fun _ => ⟨_, bs, M, rfl, g2.trans g3, hu3, bt.go g2.1 g3, by omega, okM⟩)
        refine ⟨_, rfl, .inl ⟨rfl, _, SqL.of hu3⟩, _, rfl, _, rfl, u, _, rfl, .inl (SqL.of hu3), _, _, rfl, rfl, r, c, _, rfl, g3.1, by omega, by rw [List.length_map]; omega, fun n H4 n0 n1 g4 => ?_⟩
        refine ⟨_, rfl, _, rfl, _, rfl, r, c, p, x, w, rfl, g4.1, g4.tup g3.1 (g3.tup g2.1 hp2), w1, w2, fun a b H5 g5 ha ob => ?_⟩
        have hu5 := g5.2 _ _ nua.1 nua.2 (g4.2 _ _ nua.1 nua.2 hu3)
        have bt5 := ((bt.go g2.1 g3).go g3.1 g4).go g4.1 g5
        refine ⟨u, _, n, _, rfl, rfl, hu5, small1000 (by rw [List.length_map]; omega), n0, by rw [List.length_map] at n1; omega, ?_⟩
        have tx : TExt H5 (upd H5 u (.lst ((bs.map V.ref).take n.toNat ++ [.ref a] ++ (bs.map V.ref).drop n.toNat))) := TExt.put hu5
        refine ⟨_, bs.take n.toNat ++ [a] ++ bs.drop n.toNat, M.take n.toNat ++ [b] ++ M.drop n.toNat, rfl, Go.put g1.1 (((g2.trans g3).trans g4).trans g5) nu, ?_, BT.ins (tx _ _ ha) _ (tx.bt bt5), by rw [ins_len]; exact Nat.succ_le_succ lM, fun y hy => ?_⟩
        · rw [upd_same, List.map_append, List.map_append, List.map_take, List.map_drop]
          rfl
        · rcases ins_mem hy with e | e
          · rw [e]; exact ob
          · exact okM y e
      · rintro σ' H2 ⟨v5, bs, M, rfl, g2, hu, bt, lM, okM⟩
        exact ⟨_, bs, M, rfl, g2, hu, bt, by rw [List.length_map] at lM; omega, okM⟩
    rintro σ' H2 ⟨v5, bs, M, rfl, g2, hu, bt, lM, okM⟩
    refine ⟨fun σ' H' => ∃ (v5 : Option V) (bs : List Addr) (M : List Bar), σ' = [some (.ref r), some (.int w), some (.int (m : Int)), some (.ref o1), some (.ref u), v5, Option.none] ∧ Go r c H1 H' ∧ H' u = some (.lst (bs.map V.ref)) ∧ BT H' bs M ∧ M.length ≤ m ∧ ∀ b ∈ M, okBar b, ?_, ?_⟩
    · refine ⟨fun μ σ' H' => ∃ (v5 : Option V) (bs : List Addr) (M : List Bar), σ' = [some (.ref r), some (.int w), some (.int (m : Int)), some (.ref o1), some (.ref u), v5, Option.none] ∧ Go r c H1 H' ∧ H' u = some (.lst (bs.map V.ref)) ∧ BT H' bs M ∧ M.length + μ = m ∧ ∀ b ∈ M, okBar b, ⟨m - M.length, v5, bs, M, rfl, g2, hu, bt, by omega, okM⟩, ?_⟩
      rintro μ σ' H3 ⟨v5, bs, M, rfl, g3, hu3, bt3, lM3, okM3⟩
      have lbs := bt3.len
      refine ⟨_, rfl, u, _, rfl, .inl (SqL.of hu3), _, rfl, _, _, rfl, rfl, _, rfl, ?_⟩
      refine ite2 (fun q => ?_) (fun q => iteF ⟨_, bs, M, rfl, g3, hu3, bt3, by omega, okM3⟩)
      have lt : M.length < m := by
        have := of_decide_eq_true q
        rw [List.length_map, lbs] at this
        omega
      refine ⟨_, rfl, r, c, 3, rfl, g3.1, by decide, by decide, fun z H4 z0 z1 g4 => ⟨rfl, _, rfl, ?_⟩⟩
      have hu4 := g4.2 _ _ nua.1 nua.2 hu3
      refine ite2 (fun _ => ?_) (fun _ => ?_)
      · refine ⟨_, fun σ' H' z => ⟨μ - 1, by omega, z⟩, ?_⟩
        refine ⟨_, rfl, .inl ⟨rfl, _, SqL.of hu4⟩, _, rfl, _, rfl, r, c, w, rfl, g4.1, w1, w2, fun a b H5 g5 ha ob => ?_⟩
        have hu5 := g5.2 _ _ nua.1 nua.2 hu4
        have tx : TExt H5 (upd H5 u (.lst (bs.map V.ref ++ [.ref a]))) := TExt.put hu5
        refine ⟨u, _, _, rfl, rfl, hu5, small1000 (by rw [List.length_map]; omega), ?_⟩
        refine ⟨_, bs ++ [a], M ++ [b], rfl, Go.put g1.1 ((g3.trans g4).trans g5) nu, by rw [upd_same, List.map_append]; rfl, Paired.snoc (tx.bt ((bt3.go g3.1 g4).go g4.1 g5)) (tx _ _ ha), by rw [List.length_append]; show M.length + 1 + (μ - 1) = m; omega, fun y hy => ?_⟩
        rcases List.mem_append.mp hy with e | e
        · exact okM3 y e
        · rw [List.mem_singleton.mp e]; exact ob
      · exact ⟨_, bs, M, rfl, g3.trans g4, hu4, bt3.go g3.1 g4, by omega, okM3⟩
    rintro σ' H3 ⟨v5, bs, M, rfl, g3, hu3, bt3, lM3, okM3⟩
    refine ⟨_, rfl, _, rfl, by show 2 ≤ sizeLine; decide, fun t nt => ?_⟩
    have gt := Go.new (o := .tup [V.ref o1, V.ref u]) g3.1 nt
    have g13 := g3.trans gt
    refine k t o1 u L M _ (g1.trans g13) upd_same ⟨as, g13.off _ _ ho1, bt1.mono fun _ _ z => g13.off _ _ z⟩ ⟨bs, off_at nua (Ext.upd nt _ _ hu3), (bt3.go g3.1 gt).off gt.1⟩ lL lM3 okL okM3
end
end B46

set_option Elab.async false
set_option linter.all false
set_option maxRecDepth 100000
set_option maxHeartbeats 400000
set_option pp.maxSteps 60
/-! t[::-1] of a short tuple. -/
namespace B46
open PySem L2 PyProof.Rows
section
variable {prog : Program} {w : World} {A : Around} {E : Value → Shared → Prop} {s : Shared}
theorem back_parts {n : Nat} {sl : Addr} {vs : Value} {Q : Int × Int × Nat → Shared → Prop} (h4 : n ≤ 10) (hs : s.heap.IsSliceOf sl .none .none vs) (ps : IsPart vs (some (-1))) (h : Q ((n : Int) - 1, -1, n) s) :
    wpAny (model prog w) A (Builtin.Slice.sliceApplied (.ref sl) (pure (n : Int))) Q E s := by
  rcases hs with ⟨ob, there, _, dt⟩
  unfold Builtin.Slice.sliceApplied Builtin.Slice.sliceFields
  refine wpAny_bind (wpAny_bind (wpAny_field there dt (x := .none) rfl (wpAny_bind (wpAny_field there dt (x := .none) rfl (wpAny_bind (wpAny_field there dt (x := vs) rfl (wpAny_pure ?_)))))))
  refine wpAny_bind (HT.slicePart_ ps ?_)
  show wpAny _ _ (if ((-1 : Int) == 0) = true then _ else _) _ _ s
  rw [if_neg (by decide)]
  have four : n = 0 ∨ n = 1 ∨ n = 2 ∨ n = 3 ∨ n = 4 ∨ n = 5 ∨ n = 6 ∨ n = 7 ∨ n = 8 ∨ n = 9 ∨ n = 10 := by omega
  rcases four with rfl | rfl | rfl | rfl | rfl | rfl | rfl | rfl | rfl | rfl | rfl <;> exact wpAny_bind (HT.slicePart_ .none (wpAny_bind (HT.slicePart_ .none (wpAny_bind (wpAny_pure (wpAny_pure h))))))
theorem fm_map {α β : Type} {f : α → Option β} {g : α → β} : ∀ {l : List α}, (∀ x ∈ l, f x = some (g x)) → l.filterMap f = l.map g
  | [], _ => rfl
  | x :: l, h => by
    rw [List.filterMap_cons, h x List.mem_cons_self, List.map_cons, fm_map fun y hy => h y (List.mem_cons_of_mem _ hy)]
theorem pick_some (us : List Value) : ((List.range us.toArray.size).filterMap fun (m : Nat) => us.toArray[(((us.toArray.size : Nat) : Int) - 1 + (m : Int) * (-1)).toNat]?).toArray = us.reverse.toArray := by
  congr 1
  have e : ((List.range us.toArray.size).filterMap fun (m : Nat) => us.toArray[(((us.toArray.size : Nat) : Int) - 1 + (m : Int) * (-1)).toNat]?) = (List.range us.length).map fun m => us.reverse.getD m .none := by
    rw [List.size_toArray]
    refine fm_map fun m hm => ?_
    have lt := List.mem_range.mp hm
    have e1 : (((us.length : Nat) : Int) - 1 + (m : Int) * (-1)).toNat = us.length - 1 - m := by omega
    rw [e1, List.getElem?_toArray, List.getD_eq_getElem?_getD, List.getElem?_reverse lt, List.getElem?_eq_getElem (by omega)]
    rfl
  rw [e]
  exact (range_map (fun x => x) Value.none (by rw [List.length_reverse])).trans (List.map_id' _)
theorem back_some {t sl : Addr} {us : List Value} {vs : Value} {Q : Value → Shared → Prop} (h4 : us.length ≤ 10) (ht : IsTup s.heap t us.toArray) (hs : s.heap.IsSliceOf sl .none .none vs) (ps : IsPart vs (some (-1)))
    (h : Q (.ref s.heap.objs.size) { s with heap := s.heap.push { cls := .type "tuple", data := .seq us.reverse.toArray } }) : wpAny (model prog w) A (getItem (.ref t) (.ref sl)) Q E s := by
  have isS : s.TypeIs (.ref sl) "slice" := by
    rcases hs with ⟨ob, there, hc, _⟩
    exact ⟨ob, there, hc⟩
  have fit : sizeOk (.seq us.reverse.toArray) := by
    have e : us.reverse.toArray.size ≤ sizeLine := by
      rw [List.size_toArray, List.length_reverse, sizeLine_eq]
      omega
    exact e
  unfold getItem
  try with_reducible refine wpAny_holding ?_
  first | refine wpAny_bind (wpAny_pure ?_) | skip
  refine wpAny_bind (wpAny_sequenceKey ht.typeIs (by decide) (wpAny_bind (wpAny_callSpecial?_slot (name := Str.ofString "__getitem__") ht.typeIs slot_tuple_getitem (wpAny_call_entry slot_tuple_getitem ht.typeIs entry_tuple_getitem ?_ (args_tuple_getitem _ _)))))
  show wpAny _ _ (Builtin.Tuple.tupleItemsOf (.ref t) >>= _) _ _ s
  refine wpAny_bind (tupleItemsOf_ ht (wpAny_bind (wpAny_typeOf isS ?_)))
  rw [if_pos (by decide)]
  have pick := pick_some us
  refine wpAny_bind (back_parts h4 hs ps ?_)
  show wpAny _ _ (if (((us.length : Nat) : Int) - 1 == 0 && (-1 : Int) == 1 && us.length == us.toArray.size) = true then _ else _) _ _ s
  rw [if_neg (by simp)]
  rw [pick]
  refine wpAny_bind (m := Builtin.Tuple.tupleExact _) ?_
  refine wpAny_newObj_type ?_ fit
  exact wpAny_pure ⟨_, rfl, wpAny_pure h⟩
end
theorem vals_rev : ∀ {xs : List V} {us : List Value}, Vals xs us → Vals xs.reverse us.reverse
  | _, _, .nil => .nil
  | _, _, .cons a r => by
    rw [List.reverse_cons, List.reverse_cons]
    exact Paired.snoc (vals_rev r) a
/-- t[::-1] -/
def tBack (te : TE) : TE := fun σ H Q => te σ H fun v H1 => ∃ (a : Addr) (xs : List V), v = .ref a ∧ H1 a = some (.tup xs) ∧ xs.length ≤ 10 ∧ ∀ p, H1 p = none → Q (.ref p) (upd H1 p (.tup xs.reverse))
theorem pe_back {X : Cx} {e : Expr} {te : TE} {k : Nat} {p1 p2 p3 pos : Pos} (he : PE X e te) : PE X (.Subscript e (.Slice none none (some (.UnaryOp .USub (.Constant (.int 1) k p1) p2)) p3) pos) (tBack te) := by
  constructor
  intro pins s σ H Q I h
  have minus : PO X (some (.UnaryOp .USub (.Constant (.int 1) k p1) p2)) (tPart (tUn (rU fun i => .int (-i)) (tC (.int 1)))) := po_some (pe_un un_neg pe_int)
  refine Subscript_ (thn (he.run pins s σ H _ I h) ?_)
  rintro v s1 ⟨z, H1, I1, rz, a, xs, rfl, ha, h4, q⟩
  obtain rfl : v = Value.ref a := rz
  refine wpAny_Slice (thn (po_none.run pins s1 σ H1 (fun o H2 => o = none ∧ H2 = H1) I1 ⟨rfl, rfl⟩) ?_)
  rintro vl s2 ⟨l, H2, I2, pl, rfl, rfl⟩
  refine thn (po_none.run pins s2 σ H2 (fun o H3 => o = none ∧ H3 = H2) I2 ⟨rfl, rfl⟩) ?_
  rintro vu s3 ⟨u, H3, I3, pu, rfl, rfl⟩
  refine thn (minus.run pins s3 σ H3 (fun o H4 => o = some (-1) ∧ H4 = H3) I3 ⟨1, rfl, -1, rfl, rfl, rfl⟩) ?_
  rintro vs s4 ⟨o, H4, I4, ps, rfl, rfl⟩
  have J : Inv X pins σ H4 { s4 with heap := s4.heap.push { cls := .type "slice", data := .fields #[vl, vu, vs] } } := I4.kept (t' := s4.toks) fun b ob z => Heap.get?_push_of_some _ z
  obtain ⟨its, r, ht, _⟩ := J.tuple (SqT.of ha)
  refine tail_any (ops := [.ref a, .ref s4.heap.objs.size]) ht.typeIs slot_tuple_getitem.lookup ?_ (by with_unfolding_all rfl)
  cases pl
  cases pu
  have lr := r.length
  refine back_some (us := its) (by omega) ht (Heap.IsSliceOf.new _ .none .none vs) ps ?_
  refine ⟨.ref _, _, J.laid (t' := s4.toks) (o := .tup xs.reverse) (fun b ob z => Heap.get?_push_of_some _ z) (Nat.le_refl _) ?_, rfl, q _ (J.hok.fresh (Nat.le_refl _))⟩
  exact ⟨by rw [List.length_reverse, sizeLine_eq]; omega, its.reverse, vals_rev r, ⟨_, Heap.get?_push_size _ rfl, rfl, _, rfl⟩⟩
end B46

set_option Elab.async false
set_option linter.all false
set_option maxRecDepth 100000
set_option maxHeartbeats 4000000
set_option pp.maxSteps 60
/-! Things within things; flags; lots. -/
namespace B46
open PySem L2
abbrev sDeep : Stmt := top 38
abbrev sFlag : Stmt := top 41
abbrev sLots : Stmt := top 42
theorem lc_big {J : It} {n : Nat} {G : Hp → Prop} {Y : Nat → Hp → V → Hp → Prop} (w : Walk J n G Y) {g : TG} {tt : L2.TT} {te : TE} {vs : List Nat} {σ : L2.St} {H : Hp} {D : Addr} {Qd : Hp → Prop} (nD : H D = none) (n1000 : n ≤ 100000) (p : Nat → Bool) (Pr : Nat → V → Hp → Prop)
    (mono : ∀ i y H1 H2, TExt H1 H2 → Pr i y H1 → Pr i y H2) (hG : ∀ H', Ext H H' → G H')
    (hs : ∀ i x H1 H' (R : VK) (N : Hp → Prop), i < n → Ext H H1 → Y i H1 x H' → (p i = true → ∀ y H4, Ext H1 H4 → Pr i y H4 → R y H4) → (p i = false → ∀ H4, Ext H1 H4 → N H4) →
      g x (wipe σ vs) H' fun σ2 H2 => wipe σ2 vs = wipe σ vs ∧ tt σ2 H2 fun b H3 => if b = true then te σ2 H3 R else N H3)
    (hd : ∀ ys H', Ext H H' → H' D = some (.lst ys) → Paired (fun i y => Pr i y H') ((List.range n).filter p) ys → Qd H') :
    ∃ W : Nat → Nat → Hp → Prop, (∃ m, W 0 m (upd H D (.lst []))) ∧ ∀ i m H, W i m H →
      (J.stop i H ∧ Qd H) ∨ (J.go i H ∧ ∃ Nx : Hp → Prop, (∀ H', Nx H' → ∃ m', m' < m ∧ W (i + 1) m' H') ∧ ∀ x H', J.yld i H x H' → g x (wipe σ vs) H' fun σ2 H2 => wipe σ2 vs = wipe σ vs ∧ tt σ2 H2 fun b H3 =>
        if b = true then te σ2 H3 fun y H4 => ∃ acc, H4 D = some (.lst acc) ∧ acc.length < sizeLine ∧ Nx (upd H4 D (.lst (acc ++ [y]))) else Nx H3) := by
  refine lc_it w (fun i H' => Ext H H' ∧ ∃ ys, H' D = some (.lst ys) ∧ Paired (fun i y => Pr i y H') ((List.range i).filter p) ys) ⟨Ext.upd nD, [], upd_same, .nil⟩ (fun i H' _ z => hG H' z.1) ?_ ?_
  · rintro i x H1 H' hi ⟨e1, ys, hD, pr⟩ y
    have ly : ys.length ≤ i := by
      rw [← Paired.length pr]
      exact Nat.le_trans (List.length_filter_le _ _) (by rw [List.length_range]; exact Nat.le_refl _)
    refine hs i x H1 H' _ _ hi e1 y (fun hp z H4 e4 hz => ?_) (fun hp H4 e4 => ?_)
    · have hD4 := e4 _ _ hD
      have t4 : TExt H4 (upd H4 D (.lst (ys ++ [z]))) := TExt.put hD4
      refine ⟨ys, hD4, Nat.lt_of_le_of_lt (show ys.length ≤ 100000 by omega) (by decide), fun b o hb => ?_, ys ++ [z], upd_same, ?_⟩
      · rw [upd_ne (ne_of_none hb nD)]
        exact e4 _ _ (e1 _ _ hb)
      · rw [List.range_succ, List.filter_append]
        have ef : [i].filter p = [i] := by rw [List.filter_cons, if_pos hp]; rfl
        rw [ef]
        exact Paired.snoc (Paired.imp' (fun j u q => mono _ _ _ _ ((TExt.of e4).trans t4) q) pr) (mono _ _ _ _ t4 hz)
    · refine ⟨e1.trans e4, ys, e4 _ _ hD, ?_⟩
      rw [List.range_succ, List.filter_append]
      have ef : [i].filter p = [] := by rw [List.filter_cons, if_neg (by rw [hp]; exact Bool.false_ne_true)]; rfl
      rw [ef, List.append_nil]
      exact Paired.imp' (fun j u q => mono _ _ _ _ (TExt.of e4) q) pr
  · rintro H' ⟨e, ys, hD, pr⟩
    exact hd ys H' e hD pr
section
variable {K : PySem.W.Frag} {S : Hp}
theorem TD.lst {p : Addr} {xs : List V} (h : S p = some (.lst xs)) : TD K S (.ref p) .oth := .oth (.base (.lst h)) (kit_ty (show kitB "list" "int" = some false by decide +kernel)) (kit_ty (show kitB "list" "bool" = some false by decide +kernel)) (kit_ty (show kitB "list" "tuple" = some false by decide +kernel)) rfl rfl (fun z => nomatch z) fun a e => by cases e; exact ⟨_, h, fun _ z => nomatch z⟩
theorem TD.dct {p : Addr} {kvs : List (Key × V)} (h : S p = some (.dK kvs)) : TD K S (.ref p) .oth := .oth (.base (.dK h)) (kit_ty (show kitB "dict" "int" = some false by decide +kernel)) (kit_ty (show kitB "dict" "bool" = some false by decide +kernel)) (kit_ty (show kitB "dict" "tuple" = some false by decide +kernel)) rfl rfl (fun z => nomatch z) fun a e => by cases e; exact ⟨_, h, fun _ z => nomatch z⟩
theorem TD.str (z : Str) : TD K S (.str z) .oth := .oth (.base (.str z)) (kit_ty (show kitB "str" "int" = some false by decide +kernel)) (kit_ty (show kitB "str" "bool" = some false by decide +kernel)) (kit_ty (show kitB "str" "tuple" = some false by decide +kernel)) rfl rfl (fun z => nomatch z) fun a e => nomatch e
/-- a tuple of ints -/
theorem TD.ints {p : Addr} {ns : List Int} (h : S p = some (.tup (ns.map V.int))) (hl : ns.length ≤ 1000) : TD K S (.ref p) (.tup (ns.map .int)) := .tup h (by rw [List.length_map]; exact hl) (td_ints ns)
end
/-- some thing -/
def AnyD (K : PySem.W.Frag) (S : Hp) (x : V) : Prop := ∃ d, TD K S x d
theorem AnyD.ext {K : PySem.W.Frag} {S S' : Hp} {x : V} (e : Ext S S') (h : AnyD K S x) : AnyD K S' x := let ⟨d, h⟩ := h; ⟨d, h.ext e⟩
theorem anys {K : PySem.W.Frag} {S : Hp} : ∀ {xs : List V}, (∀ x ∈ xs, AnyD K S x) → ∃ ds, TDs K S xs ds
  | [], _ => ⟨[], .nil⟩
  | x :: xs, h => by
    obtain ⟨d, hd⟩ := h x List.mem_cons_self
    obtain ⟨ds, hs⟩ := anys (xs := xs) fun y hy => h y (List.mem_cons_of_mem _ hy)
    exact ⟨d :: ds, .cons hd hs⟩
theorem AnyD.tup {K : PySem.W.Frag} {S : Hp} {p : Addr} {xs : List V} (h : S p = some (.tup xs)) (hl : xs.length ≤ 1000) (it : ∀ x ∈ xs, AnyD K S x) : AnyD K S (.ref p) := let ⟨ds, hs⟩ := anys it; ⟨_, .tup h hl hs⟩
def spDeep (K : PySem.W.Frag) : Sp := fun vs H Q _ => ∃ (r c : Addr), vs = [.ref r] ∧ BagAt H r c ∧ ∀ (x : V) (H' : Hp), Go r c H H' → AnyD K (Off r c H') x → Q x H'
def spFlag : Sp := fun vs H Q _ => ∃ a b : Bool, vs = [.bl a, .bl b] ∧ Q (.bl (decide (a = b))) H
def spLots : Sp := fun vs H Q _ => ∃ n : Nat, vs = [.int (n : Int)] ∧ n ≤ 10 ∧ ∀ (l : Addr) (as : List Addr) (ll : List (List Int)) (H' : Hp), Ext H H' → H' l = some (.lst (as.map V.ref)) → PT2 H' as ll → ll.length ≤ 1024 → (∀ x ∈ ll, x.length ≤ 4) → Q (.ref l) H'
theorem refs_of {β : Type} {S : Hp} {g : β → List Int} : ∀ {r : List β} {ys : List V}, Paired (fun i y => ∃ a, y = V.ref a ∧ S a = some (.tup ((g i).map V.int))) r ys → ∃ as, ys = as.map V.ref ∧ PT2 S as (r.map g)
  | _, _, .nil => ⟨[], rfl, .nil⟩
  | _, _, .cons ⟨a, e, h⟩ r => by
    obtain ⟨as, rfl, h2⟩ := refs_of r
    exact ⟨a :: as, by rw [e]; rfl, .cons h h2⟩
theorem PT2.app {S : Hp} {as bs : List Addr} {ll kk : List (List Int)} (h : PT2 S as ll) (g : PT2 S bs kk) : PT2 S (as ++ bs) (ll ++ kk) := by
  induction h with
  | nil => exact g
  | cons x _ ih => exact .cons x ih
section
variable {P : Program} {w : World} {K : PySem.W.Frag} {mg : Str → Option Value} {base : Heap}
theorem scFlag : FnScope ["_law_told", "_law_due"] ["_law_told", "_law_due"] (defScope sFlag) := ⟨rfl, rfl, rfl, by decide +kernel, rfl, by decide +kernel, by decide +kernel⟩
theorem ok_flag {f : Addr} {fd : FuncData} (F : L2.Fun K "_law_is_flag" "_law_is_flag" sFlag f fd) (T : Gb mg) : FnOk P w K mg base CX0 1 f fd ["_law_told", "_law_due"] spFlag := by
  refine F.ok scFlag (fun vs H Q E h => ?_) (fun cdv A outer s H vs Q E hr h => ?_)
  · obtain ⟨a, b, rfl, _⟩ := h
    rfl
  · obtain ⟨a, b, rfl, k⟩ := h
    refine ⟨_, pss_one (ps_ret (pe_and (pe_callB call_isi (by rfl) T.isi (by decide +kernel) (pa_cons (pv 0) (pa_cons (pe_bltn (v := .ty "bool") (by rfl) T.bool (by decide +kernel) rfl) pa_nil))) (pe_one (pe_cmpR op_eq (pv 0) (pv 1) (nomark _))))), ?_⟩
    refine ⟨_, rfl, .bl a, .ty "bool", _, .type "bool", true, rfl, .ty _, .base (.bl a), kit_ty (show kitB "bool" "bool" = some true by decide +kernel), _, rfl, ?_⟩
    refine iteT ⟨_, rfl, _, rfl, rfl, ?_⟩
    have e : decide (V.bl a = V.bl b) = decide (a = b) := by
      by_cases h : a = b
      · rw [h]; simp
      · rw [decide_eq_false h, decide_eq_false fun z => h (by injection z)]
    show Q (.bl (decide (V.bl a = V.bl b))) H
    rw [e]
    exact k
abbrev deepN : List Str := ["_law_bag_here", "_law_found", "_law_turn"]
theorem scDeep : FnScope deepN ["_law_bag_here"] (defScope sDeep) := ⟨rfl, rfl, rfl, by decide +kernel, rfl, by decide +kernel, by decide +kernel⟩
theorem ok_deep {f : Addr} {fd : FuncData} (F : L2.Fun K "_law_deep" "_law_deep" sDeep f fd) (T : Gb mg) (cP : Cal P w K mg base 1 "_law_pick" spPick []) (cS : Cal P w K mg base 2 "_law_some" spSome []) : FnOk P w K mg base CX0 3 f fd ["_law_bag_here"] (spDeep K) := by
  refine F.ok scDeep (fun vs H Q E h => ?_) (fun cdv A outer s H vs Q E hr h => ?_)
  · obtain ⟨r, c, rfl, _⟩ := h
    rfl
  · obtain ⟨r, c, rfl, bag, k⟩ := h
    refine ⟨_, pss_cons (ps_set (i := 1) scDeep.nd rfl (Or.inl rfl) (C8.pe_c cS hr (by decide) (by rfl) (pa_cons (pv 0) (pa_cons (pe_lst (pa_cons pe_int (pa_cons pe_str (pa_cons pe_non pa_nil)))) pa_nil))))
      (pss_cons (ps_for PassesOwn.never rfl (pi_range1 (by rfl) T.rng (pa_cons (pe_op op_add pe_int (C8.pe_c cP hr (by decide) (by rfl) (pa_cons (pv 0) (pa_cons pe_int pa_nil)))) pa_nil)) (pg_name (i := 2) scDeep.nd rfl (Or.inl rfl))
      (pss_one (ps_set (i := 1) scDeep.nd rfl (Or.inl rfl) (pe_ifExp (pt_cmpR op_eq (C8.pe_c cP hr (by decide) (by rfl) (pa_cons (pv 0) (pa_cons pe_int pa_nil))) pe_int (nomark _)) (pe_lst (pa_cons (pv 1) pa_nil)) (pe_tup (pa_cons (pv 1) pa_nil))))))
      (pss_one (ps_ret (pv 1)))), ?_⟩
    refine ⟨_, rfl, by show 3 ≤ sizeLine; decide, fun l nl => ?_⟩
    have nla := bag.ne nl
    have gl := Go.new (o := .lst [.int 0, .str "x", .non]) bag nl
    refine ⟨r, c, l, _, rfl, gl.1, nla.1, nla.2, upd_same, by simp, by show 3 ≤ 1000; decide, fun x H1 hx g1 => ?_⟩
    have ax : AnyD K (Off r c H1) x := by
      simp only [List.mem_cons, List.not_mem_nil, or_false] at hx
      rcases hx with rfl | rfl | rfl
      · exact ⟨_, .int 0⟩
      · exact ⟨_, TD.str _⟩
      · exact ⟨_, .non⟩
    refine ⟨_, rfl, r, c, 38, rfl, g1.1, by decide, by decide, fun n H2 n0 n1 g2 => ⟨_, _, rfl, rfl, 1 + n, rfl, by omega, by omega, ?_⟩⟩
    refine for_range (lo := 0) (n := (1 + n).toNat) (fun i σ' H' => ∃ (y : V) (v : Option V), σ' = [some (.ref r), some y, v] ∧ Go r c H H' ∧ AnyD K (Off r c H') y) ⟨x, _, rfl, (gl.trans g1).trans g2, ax.ext g2.off⟩ ?_ ?_
    · rintro i σ' H' hi ⟨y, v, rfl, g, ay⟩
      refine ⟨_, rfl, r, c, 2, rfl, g.1, by decide, by decide, fun z H3 z0 z1 g3 => ⟨rfl, _, rfl, ?_⟩⟩
      have ay3 := ay.ext g3.off
      refine ite2 (fun _ => ?_) (fun _ => ?_)
      · refine ⟨_, rfl, by show 1 ≤ sizeLine; decide, fun p np => ?_⟩
        have gp := Go.new (o := .lst [y]) g3.1 np
        exact ⟨_, _, rfl, (g.trans g3).trans gp, _, TD.lst (off_at (g3.1.ne np) upd_same)⟩
      · refine ⟨_, rfl, by show 1 ≤ sizeLine; decide, fun p np => ?_⟩
        have gp := Go.new (o := .tup [y]) g3.1 np
        exact ⟨_, _, rfl, (g.trans g3).trans gp, AnyD.tup (off_tup gp.1 upd_same) (by show 1 ≤ 1000; decide) fun u hu => by rw [List.mem_singleton.mp hu]; exact ay3.ext gp.off⟩
    · rintro σ' H' ⟨y, v, rfl, g, ay⟩
      exact ⟨_, rfl, k y H' g ay⟩
abbrev lotsN : List Str := ["_law_many", "_law_found", "_law_number", "_law_lot"]
theorem scLots : FnScope lotsN ["_law_many"] (defScope sLots) := ⟨rfl, rfl, rfl, by decide +kernel, rfl, by decide +kernel, by decide +kernel⟩
theorem ok_lots {f : Addr} {fd : FuncData} (F : L2.Fun K "_law_lots" "_law_lots" sLots f fd) (T : Gb mg) : FnOk P w K mg base CX0 1 f fd ["_law_many"] spLots := by
  refine F.ok scLots (fun vs H Q E h => ?_) (fun cdv A outer s H vs Q E hr h => ?_)
  · obtain ⟨n, rfl, _⟩ := h
    rfl
  · obtain ⟨n, rfl, n10, k⟩ := h
    refine ⟨_, pss_cons (ps_set (i := 1) scLots.nd rfl (Or.inl rfl) (pe_lst (pa_cons (pe_tup pa_nil) pa_nil)))
      (pss_cons (ps_for PassesOwn.never rfl (pi_range1 (by rfl) T.rng (pa_cons (pv 0) pa_nil)) (pg_name (i := 2) scLots.nd rfl (Or.inr rfl))
      (pss_one (ps_set (i := 1) scLots.nd rfl (Or.inl rfl) (pe_op op_cat (pv 1) (pe_lc (own := [("_law_lot", 3)]) (g := gName 3) rfl scLots.nd (pi_list (pv 1)) (blkOk_by (N := lotsN) (sc := defScope sLots) (by decide +kernel)) (fun _ _ _ _ _ => (pg_name (i := 3) scLots.nd rfl (Or.inl rfl))) (fun _ _ _ _ _ => (pts_one (pt_cmpR op_lt (pe_callB (r := rLenS K) call_lenS (by rfl) T.len PySem.boot_len (pa_cons (pv 3) pa_nil)) pe_int (nomark _)))) (fun _ _ _ _ _ => (pe_op (r := rCatA K) op_catA (pv 3) (pe_tup (pa_cons (pv 2) pa_nil)))))))))
      (pss_one (ps_ret (pv 1)))), ?_⟩
    refine ⟨Nat.zero_le _, fun t nt => ⟨by show 1 ≤ sizeLine; decide, fun l nl => ?_⟩⟩
    have xt := Ext.upd (o := .tup []) nt
    have xl := Ext.upd (o := .lst [.ref t]) nl
    refine ⟨_, rfl, (n : Int), rfl, by omega, by omega, for_range (lo := 0) (n := (n : Int).toNat) (fun i σ' H' => ∃ (l : Addr) (v : Option V) (as : List Addr) (ll : List (List Int)), σ' = [some (.int (n : Int)), some (.ref l), v, Option.none] ∧ Ext H H' ∧ H' l = some (.lst (as.map V.ref)) ∧ PT2 H' as ll ∧ ll.length ≤ 2 ^ i ∧ ∀ x ∈ ll, x.length ≤ 4)
      ⟨l, _, [t], [[]], rfl, xt.trans xl, upd_same, .cons (xl _ _ upd_same) .nil, Nat.le_refl _, fun x hx => by rw [List.mem_singleton.mp hx]; exact Nat.zero_le _⟩ ?_ ?_⟩
    · rintro i σ' H1 hi ⟨l1, v, as, ll, rfl, e1, hl1, pt, len, l4⟩
      have li : 2 ^ i ≤ 1024 := Nat.le_trans (Nat.pow_le_pow_right (by decide) (show i ≤ 10 by omega)) (by decide)
      have la := PT2.len pt
      refine ⟨_, rfl, _, rfl, l1, rfl, ⟨_, SqL.of hl1⟩, fun D nD => ?_⟩
      refine lc_big (p := fun j => decide ((ll.getD j []).length < 4)) walk_list nD (by rw [List.length_map]; omega) (fun j y S => ∃ a, y = V.ref a ∧ S a = some (.tup ((ll.getD j [] ++ [0 + (i : Int)]).map V.int))) (fun _ _ _ _ te ⟨a, h1, h2⟩ => ⟨a, h1, te _ _ h2⟩) (fun H' e => SqL.of (e _ _ hl1)) ?_ ?_
      · rintro j y H2 H' R N hj e2 ⟨rfl, hy⟩ hR hN
        obtain ⟨a, ha, rfl⟩ := ref_get hy
        obtain ⟨u, hu, hau⟩ := pt.get ha
        have gu : ll.getD j [] = u := by rw [List.getD_eq_getElem?_getD, hu]; rfl
        rw [gu] at hR hN
        refine ⟨rfl, _, rfl, a, _, rfl, .inr (SqT.of (e2 _ _ hau)), _, _, rfl, rfl, _, rfl, ?_⟩
        have u4 := l4 u (List.mem_of_getElem? hu)
        have ed : decide (((u.map V.int).length : Int) < 4) = decide (u.length < 4) := decide_eq_decide.mpr (by rw [List.length_map]; omega)
        rw [ed]
        cases hq : decide (u.length < 4) with
        | false => exact iteF (hN hq H' Ext.rfl')
        | true =>
          refine iteT ⟨_, rfl, _, rfl, by show 1 ≤ sizeLine; decide, fun t1 nt1 => ?_⟩
          have x1 := Ext.upd (o := .tup [.int (0 + (i : Int))]) nt1
          refine cat_any (x1 _ _ (e2 _ _ hau)) upd_same (by rw [List.length_map]; show u.length + 1 ≤ 1000; omega) fun p H3 e3 hp => ?_
          exact hR hq _ H3 (x1.trans e3) ⟨p, rfl, by rw [hp, List.map_append]; rfl⟩
      · intro ys H2 e2 hD pr
        obtain ⟨bs, rfl, pb⟩ := refs_of (g := fun j => ll.getD j [] ++ [0 + (i : Int)]) pr
        have lf : ((List.range (as.map V.ref).length).filter fun j => decide ((ll.getD j []).length < 4)).length ≤ ll.length := by
          refine Nat.le_trans (List.length_filter_le _ _) ?_
          rw [List.length_range, List.length_map, la]
          exact Nat.le_refl _
        have lb := PT2.len pb
        rw [List.length_map] at lb
        refine ⟨l1, D, _, _, rfl, rfl, e2 _ _ hl1, hD, Nat.le_trans (show _ ≤ 1000000 by rw [List.length_map, List.length_map]; omega) (by decide), fun p np => ?_⟩
        have xp := Ext.upd (o := .lst (as.map V.ref ++ bs.map V.ref)) np
        refine ⟨p, _, as ++ bs, _, rfl, e1.trans (e2.trans xp), by rw [upd_same, List.map_append], PT2.app (PT2.mono (fun _ _ z => xp _ _ (e2 _ _ z)) pt) (PT2.mono (fun _ _ z => xp _ _ z) pb), ?_, fun x hx => ?_⟩
        · rw [List.length_append, List.length_map, Nat.pow_succ]
          omega
        · rcases List.mem_append.mp hx with z | z
          · exact l4 x z
          · obtain ⟨j, hj, rfl⟩ := List.mem_map.mp z
            have := of_decide_eq_true (List.mem_filter.mp hj).2
            rw [List.length_append]
            show (ll.getD j []).length + 1 ≤ 4
            omega
    · rintro σ' H1 ⟨l1, v, as, ll, rfl, e1, hl1, pt, len, l4⟩
      refine ⟨_, rfl, k l1 as ll H1 e1 hl1 pt (Nat.le_trans len (Nat.le_trans (Nat.pow_le_pow_right (by decide) (show (n : Int).toNat ≤ 10 by omega)) (by decide))) l4⟩
end
end B46

set_option Elab.async false
set_option linter.all false
set_option maxRecDepth 100000
set_option maxHeartbeats 4000000
set_option pp.maxSteps 60
/-! Pairs drawn. -/
namespace B46
open PySem L2
abbrev sDrawn : Stmt := top 39
/-- a tuple of two ints -/
def PI (S : Hp) (x : V) : Prop := ∃ (t : Addr) (i j : Int), x = .ref t ∧ S t = some (.tup [.int i, .int j])
theorem PI.mono {S S' : Hp} {x : V} (e : TExt S S') (h : PI S x) : PI S' x := let ⟨t, i, j, h1, h2⟩ := h; ⟨t, i, j, h1, e _ _ h2⟩
theorem PI.any {K : PySem.W.Frag} {S : Hp} {x : V} (h : PI S x) : AnyD K S x := by
  obtain ⟨t, i, j, rfl, h⟩ := h
  exact ⟨_, TD.ints (ns := [i, j]) h (by show 2 ≤ 1000; decide)⟩
/-- a list of such -/
def LP (S : Hp) (l : Addr) : Prop := ∃ xs : List V, S l = some (.lst xs) ∧ xs.length ≤ 20 ∧ ∀ x ∈ xs, PI S x
theorem LP.ext {S S' : Hp} {l : Addr} (e : Ext S S') (h : LP S l) : LP S' l := let ⟨xs, h1, h2, h3⟩ := h; ⟨xs, e _ _ h1, h2, fun x hx => (h3 x hx).mono (TExt.of e)⟩
theorem Go.text {r c : Addr} {H H' : Hp} (p : BagAt H r c) (g : Go r c H H') : TExt H H' := fun b xs h => g.tup p h
theorem none_of_ext {H H1 : Hp} {b : Addr} (e : Ext H H1) (h : H1 b = none) : H b = none := by
  cases q : H b with
  | none => rfl
  | some o => rw [e _ _ q] at h; cases h
def spDrawn : Sp := fun vs H Q _ => ∃ (r c o1 o2 : Addr) (L M : List Bar) (e : Int), vs = [.ref r, .ref o1, .ref o2, .int e] ∧ BagAt H r c ∧ BL (Off r c H) o1 L ∧ BL (Off r c H) o2 M ∧ L.length ≤ 20 ∧ M.length ≤ 20 ∧ ∀ (l : Addr) (H' : Hp), Go r c H H' → LP (Off r c H') l → Q (.ref l) H'
theorem PI.off {r c : Addr} {H : Hp} {x : V} (p : BagAt H r c) (h : PI H x) : PI (Off r c H) x := let ⟨t, i, j, h1, h2⟩ := h; ⟨t, i, j, h1, off_tup p h2⟩
section
variable {P : Program} {w : World} {K : PySem.W.Frag} {mg : Str → Option Value} {base : Heap}
abbrev drawnN : List Str := ["_law_bag_here", "_law_one", "_law_other", "_law_e", "_law_found", "_law_used", "_law_at", "_law_bar_here", "_law_free", "_law_to", "_law_there"]
theorem scDrawn : FnScope drawnN ["_law_bag_here", "_law_one", "_law_other", "_law_e"] (defScope sDrawn) := ⟨rfl, rfl, rfl, by decide +kernel, rfl, by decide +kernel, by decide +kernel⟩
theorem ok_drawn {f : Addr} {fd : FuncData} (F : L2.Fun K "_law_drawn" "_law_drawn" sDrawn f fd) (T : Gb mg) (cP : Cal P w K mg base 1 "_law_pick" spPick []) (cS : Cal P w K mg base 2 "_law_some" spSome []) (cF : Cal P w K mg base 1 "_law_fits" spFit []) : FnOk P w K mg base CX0 3 f fd ["_law_bag_here", "_law_one", "_law_other", "_law_e"] spDrawn := by
  refine F.ok scDrawn (fun vs H Q E h => ?_) (fun cdv A outer s H vs Q E hr h => ?_)
  · obtain ⟨r, c, o1, o2, L, M, e, rfl, _⟩ := h
    rfl
  · obtain ⟨r, c, o1, o2, L, M, e, rfl, bag, ⟨as, ho1, bt1⟩, ⟨bs, ho2, bt2⟩, lL, lM, k⟩ := h
    refine ⟨_, pss_cons (ps_asg (pe_tup (pa_cons (pe_lst pa_nil) (pa_cons (pe_lst pa_nil) pa_nil))) (pg_tup rfl (pgs_cons (pg_name (i := 4) scDrawn.nd rfl (Or.inl rfl)) (pgs_cons (pg_name (i := 5) scDrawn.nd rfl (Or.inr rfl)) pgs_nil))))
      (pss_cons (ps_for PassesOwn.never rfl (pi_enum (by rfl) T.enum (pa_cons (pv 1) pa_nil)) (pg_tup rfl (pgs_cons (pg_name (i := 6) scDrawn.nd rfl (Or.inl rfl)) (pgs_cons (pg_name (i := 7) scDrawn.nd rfl (Or.inr rfl)) pgs_nil)))
      (pss_cons (ps_setLc (i := 8) (own := [("_law_to", 9), ("_law_there", 10)]) (g := gTup K 2 (gCons (gName 9) (gCons (gName 10) gNil))) rfl scDrawn.nd rfl rfl (sw_true rfl rfl rfl (by decide +kernel)) (pi_enum (by rfl) T.enum (pa_cons (pv 2) pa_nil)) (blkOk_by (N := drawnN) (sc := defScope sDrawn) (by decide +kernel)) (fun _ _ _ _ _ => (pg_tup rfl (pgs_cons (pg_name (i := 9) scDrawn.nd rfl (Or.inl rfl)) (pgs_cons (pg_name (i := 10) scDrawn.nd rfl (Or.inl rfl)) pgs_nil)))) (fun _ _ _ _ _ => (pts_one (PW.pt (pw_and (pt_cmpR (r := rIn K true) op_notIn_seq (pv 9) (pv 5) (by rfl)) (pw_and1 (pt_val (C8.pe_c cF hr (by decide) (by rfl) (pa_cons (pv 7) (pa_cons (pv 10) (pa_cons (pv 3) pa_nil)))))))))) (fun _ _ _ _ _ => (pv 9)))
      (pss_one (ps_if (PW.pt (pw_and (pt_cmpR op_gt (pe_callB call_len_seq (by rfl) T.len PySem.boot_len (pa_cons (pv 8) pa_nil)) pe_int (nomark _)) (pw_and1 (pt_cmpR op_gt (C8.pe_c cP hr (by decide) (by rfl) (pa_cons (pv 0) (pa_cons pe_int pa_nil))) pe_int (nomark _))))) (pss_cons (ps_expr (pe_bm PySem.F.plainAttrs_list PySem.F.slot_list_append PySem.F.type_list_append mt_append (pv 5) (pa_cons (C8.pe_c cS hr (by decide) (by rfl) (pa_cons (pv 0) (pa_cons (pv 8) pa_nil))) pa_nil)))
      (pss_one (ps_expr (pe_bm PySem.F.plainAttrs_list PySem.F.slot_list_append PySem.F.type_list_append mt_append (pv 4) (pa_cons (pe_tup (pa_cons (pv 6) (pa_cons (pe_ix ix_list (pv 5) (pe_un un_neg pe_int) (fun _ _ => rfl)) pa_nil))) pa_nil))))) pss_nil))))
      (pss_one (ps_ret (pv 4)))), ?_⟩
    have la : as.length = L.length := bt1.len
    have lb : bs.length = M.length := bt2.len
    refine ⟨Nat.zero_le _, fun f nf => ⟨Nat.zero_le _, fun u nu => ⟨by show 2 ≤ sizeLine; decide, fun t nt => ?_⟩⟩⟩
    have xf := Ext.upd (o := .lst []) nf
    have xu := Ext.upd (o := .lst []) nu
    have xt := Ext.upd (o := .tup [V.ref f, .ref u]) nt
    have nuH : H u = none := none_of_ext xf nu
    have nfu : f ≠ u := ne_of_none (show (upd H f (.lst [])) f = some (.lst []) from upd_same) nu
    have ex := (xf.trans xu).trans xt
    have hf : (upd (upd (upd H f (.lst [])) u (.lst [])) t (.tup [V.ref f, .ref u])) f = some (.lst []) := xt _ _ (xu _ _ upd_same)
    have hu : (upd (upd (upd H f (.lst [])) u (.lst [])) t (.tup [V.ref f, .ref u])) u = some (.lst []) := xt _ _ upd_same
    refine ⟨t, _, rfl, SqT.of upd_same, rfl, _, _, rfl, _, _, rfl, rfl, ?_⟩
    generalize upd (upd (upd H f (.lst [])) u (.lst [])) t (.tup [V.ref f, .ref u]) = H1 at *
    have g1 := Go.of_ext bag ex
    have nfa := bag.ne nf
    have nua := bag.ne nuH
    obtain ⟨n1a, n1c, ho1'⟩ := off_some ho1
    obtain ⟨n2a, n2c, ho2'⟩ := off_some ho2
    refine ⟨_, rfl, o1, _, rfl, SqL.of (ex _ _ ho1'), ?_⟩
    refine for_it walk_enum (fun i σ' H' => ∃ (xs : List V) (us : List Int) (v6 v7 v8 : Option V), σ' = [some (.ref r), some (.ref o1), some (.ref o2), some (.int e), some (.ref f), some (.ref u), v6, v7, v8, Option.none, Option.none] ∧ Go r c H H' ∧ H' f = some (.lst xs) ∧ xs.length ≤ i ∧ (∀ x ∈ xs, PI H' x) ∧ H' u = some (.lst (us.map V.int)) ∧ us.length ≤ i)
      ⟨[], [], _, _, _, rfl, g1, hf, Nat.le_refl _, (fun _ h => nomatch h), hu, Nat.le_refl _⟩ (fun i σ' H' _ ⟨_, _, _, _, _, _, g, _⟩ => SqL.of (g.2 _ _ n1a n1c ho1')) ?_ ?_
    · rintro i z σ' H2 H2' hi ⟨xs, us, v6, v7, v8, rfl, g2, hf2, lx, px, hu2, lu⟩ ⟨t2, u2, y, rfl, nt2, rfl, hu3, hy⟩
      cases hu3
      obtain ⟨b, hb, rfl⟩ := ref_get hy
      obtain ⟨v, hv, hvt⟩ := bt1.get hb
      have li := (List.getElem?_eq_some_iff.mp hb).1
      have x2 := Ext.upd (o := .tup [.int (i : Nat), .ref b]) nt2
      refine ⟨t2, _, rfl, SqT.of upd_same, rfl, _, _, rfl, _, _, rfl, rfl, ?_⟩
      have g2' := g2.trans (Go.of_ext g2.1 x2)
      have hf2' := x2 _ _ hf2
      have hu2' := x2 _ _ hu2
      have px' : ∀ x ∈ xs, PI _ x := fun x hx => (px x hx).mono (TExt.of x2)
      have hvt' := g2'.tup bag (off_some hvt).2.2
      have ho2' := g2'.2 _ _ n2a n2c ho2'
      generalize upd H2 t2 (.tup [.int (i : Nat), .ref b]) = H3 at *
      refine ⟨_, rfl, o2, _, rfl, SqL.of ho2', fun D nD => ?_⟩
      refine lc_gen (p := fun j : Nat => !decide ((j : Int) ∈ us) && fitB v (M.getD j (0, none)) e) walk_enum nD (by rw [List.length_map]; omega) (fun j y _ => y = V.int (j : Int)) (fun _ _ _ _ _ z => z) (fun H' e => SqL.of (e _ _ ho2')) ?_ ?_
      · rintro j z H4 H' R N hj e4 ⟨t4, u4, y, rfl, nt4, rfl, hu4, hy4⟩ hR hN
        cases hu4
        obtain ⟨b4, hb4, rfl⟩ := ref_get hy4
        obtain ⟨q, hq, hqt⟩ := bt2.get hb4
        have x4 := Ext.upd (o := .tup [.int (j : Nat), .ref b4]) nt4
        have gq : M.getD j (0, none) = q := by rw [List.getD_eq_getElem?_getD, hq]; rfl
        rw [gq] at hR hN
        have hqt4 := x4 _ _ (e4 _ _ (g2'.tup bag (off_some hqt).2.2))
        refine ⟨t4, _, rfl, SqT.of upd_same, rfl, _, _, rfl, _, _, rfl, rfl, rfl, ?_⟩
        refine ⟨_, rfl, _, rfl, u, _, rfl, .inl (SqL.of (x4 _ _ (e4 _ _ hu2'))), rfl, flat_ints _, _, rfl, ?_⟩
        have ein : (if (true : Bool) = true then !inV (V.int (j : Int)) (us.map V.int) else inV (V.int (j : Int)) (us.map V.int)) = !decide ((j : Int) ∈ us) := by
          rw [if_pos rfl, inV_ints]
        rw [ein]
        cases h1 : (!decide ((j : Int) ∈ us)) with
        | false =>
          rw [h1, Bool.false_and] at hN
          exact iteF (iteF (hN rfl _ x4))
        | true =>
          rw [h1, Bool.true_and] at hR hN
          refine iteT ⟨_, rfl, _, rfl, _, rfl, b, b4, v, q, e, rfl, x4 _ _ (e4 _ _ hvt'), hqt4, _, rfl, ?_⟩
          cases h2 : fitB v q e with
          | false => exact iteF (hN h2 _ x4)
          | true => exact iteT ⟨_, rfl, hR h2 _ _ x4 rfl⟩
      · intro ys H4 e4 hD pr
        have ey := vals_of (f := fun j => V.int (j : Int)) pr
        have lF : ((List.range (bs.map V.ref).length).filter fun j : Nat => !decide ((j : Int) ∈ us) && fitB v (M.getD j (0, none)) e).length ≤ 20 := by
          refine Nat.le_trans (List.length_filter_le _ _) ?_
          rw [List.length_range, List.length_map]
          omega
        have eyl : ∃ ks : List Int, ys = ks.map V.int ∧ ks.length ≤ 20 := ⟨((List.range (bs.map V.ref).length).filter fun j : Nat => !decide ((j : Int) ∈ us) && fitB v (M.getD j (0, none)) e).map fun j : Nat => (j : Int), by rw [ey, List.map_map]; rfl, by rw [List.length_map]; exact lF⟩
        clear ey pr
        obtain ⟨ks, rfl, lk⟩ := eyl
        have g4 := g2'.trans (Go.of_ext g2'.1 e4)
        have hf4 := e4 _ _ hf2'
        have hu4 := e4 _ _ hu2'
        refine ⟨_, rfl, D, _, rfl, .inl (SqL.of hD), _, _, rfl, rfl, _, rfl, ?_⟩
        refine ite2 (fun q => ?_) (fun q => ?_)
        · have kne : ks.map V.int ≠ [] := fun z => by
            have := of_decide_eq_true q
            rw [z] at this
            exact absurd this (by decide)
          refine ⟨_, rfl, r, c, 6, rfl, g4.1, by decide, by decide, fun n H5 n0 n1 g5 => ⟨_, _, rfl, rfl, _, rfl, ?_⟩⟩
          have g5' := g4.trans g5
          have hf5 := g5.2 _ _ nfa.1 nfa.2 hf4
          have hu5 := g5.2 _ _ nua.1 nua.2 hu4
          have px5 : ∀ x ∈ xs, PI H5 x := fun x hx => ((px' x hx).mono (TExt.of e4)).mono (g5.text g4.1)
          refine ite2 (fun _ => ?_) (fun _ => ⟨xs, us, _, _, _, rfl, g5', hf5, by omega, px5, hu5, by omega⟩)
          have nDa : D ≠ r ∧ D ≠ c := g2'.1.ne nD
          have hD5 := g5.2 _ _ nDa.1 nDa.2 hD
          refine ⟨_, rfl, .inl ⟨rfl, _, SqL.of hu5⟩, _, rfl, _, rfl, r, c, D, _, rfl, g5.1, nDa.1, nDa.2, hD5, kne, by rw [List.length_map]; omega, fun x H6 hx g6 => ?_⟩
          obtain ⟨n, _, rfl⟩ := List.mem_map.mp hx
          have hf6 := g6.2 _ _ nfa.1 nfa.2 hf5
          have hu6 := g6.2 _ _ nua.1 nua.2 hu5
          refine ⟨u, _, _, rfl, rfl, hu6, small1000 (by rw [List.length_map]; omega), ?_⟩
          have tx6 : TExt H6 (upd H6 u (.lst (us.map V.int ++ [.int n]))) := TExt.put hu6
          have g6' : Go r c H (upd H6 u (.lst (us.map V.int ++ [.int n]))) := Go.put bag (g5'.trans g6) nuH
          have hf7 : (upd H6 u (.lst (us.map V.int ++ [.int n]))) f = some (.lst xs) := by rw [upd_ne nfu]; exact hf6
          have hu7 : (upd H6 u (.lst (us.map V.int ++ [.int n]))) u = some (.lst (us.map V.int ++ [.int n])) := upd_same
          have px7 : ∀ x ∈ xs, PI (upd H6 u (.lst (us.map V.int ++ [.int n]))) x := fun x hx => ((px5 x hx).mono (g6.text g5.1)).mono tx6
          generalize upd H6 u (.lst (us.map V.int ++ [.int n])) = H7 at *
          refine ⟨_, rfl, .inl ⟨rfl, _, SqL.of hf7⟩, _, rfl, _, rfl, _, rfl, u, _, _, _, rfl, rfl, SqL.of hu7, atI_last _ _, by show 2 ≤ sizeLine; decide, fun p np => ?_⟩
          have xp := Ext.upd (o := .tup [.int (i : Nat), .int n]) np
          have hf8 := xp _ _ hf7
          refine ⟨f, _, _, rfl, rfl, hf8, small1000 (by omega), ?_⟩
          have tx8 : TExt _ (upd (upd H7 p (.tup [.int (i : Nat), .int n])) f (.lst (xs ++ [.ref p]))) := TExt.put hf8
          refine ⟨xs ++ [.ref p], us ++ [n], _, _, _, rfl, Go.put bag (g6'.trans (Go.of_ext g6'.1 xp)) nf, upd_same, by rw [List.length_append]; exact Nat.succ_le_succ lx, fun x hx => ?_, ?_, by rw [List.length_append]; exact Nat.succ_le_succ lu⟩
          · rcases List.mem_append.mp hx with z | z
            · exact ((px7 x z).mono (TExt.of xp)).mono tx8
            · rw [List.mem_singleton.mp z]
              exact ⟨p, _, _, rfl, tx8 _ _ upd_same⟩
          · rw [upd_ne nfu.symm, xp _ _ hu7, List.map_append]
            rfl
        · exact iteF ⟨xs, us, _, _, _, rfl, g4, hf4, by omega, fun x hx => (px' x hx).mono (TExt.of e4), hu4, by omega⟩
    · rintro σ' H2 ⟨xs, us, v6, v7, v8, rfl, g2, hf2, lx, px, hu2, lu⟩
      rw [List.length_map] at lx
      exact ⟨_, rfl, k f H2 g2 ⟨xs, off_at nfa hf2, by omega, fun x hx => (px x hx).off g2.1⟩⟩
end
end B46

set_option Elab.async false
set_option linter.all false
set_option maxRecDepth 100000
set_option maxHeartbeats 4000000
set_option pp.maxSteps 60
/-! Pairs with something otherwise. -/
namespace B46
open PySem L2
abbrev sBent : Stmt := top 40
def prL (S : Hp) (x : V) : List Int := match x with
  | .ref t => match S t with
    | some (.tup [.int i, .int j]) => [i, j]
    | _ => []
  | _ => []
theorem prL_of {S : Hp} {x : V} (h : PI S x) : ∃ t, x = .ref t ∧ S t = some (.tup ((prL S x).map V.int)) := by
  obtain ⟨t, i, j, rfl, h⟩ := h
  refine ⟨t, rfl, ?_⟩
  simp only [prL, h]
  rfl
theorem shaped_I (l : List Int) : SeqAt.shaped (.tuple (l.map .int)) = true := by
  obtain ⟨h, g⟩ := lay_ints l
  refine Bool.and_eq_true_iff.mpr ⟨by rw [PyData.canLay0]; exact h, decide_eq_true ?_⟩
  rw [PyData.depth, g]
  decide
/-- a flag or an int, and an int -/
def PJ (S : Hp) (x : V) : Prop := ∃ (t : Addr) (y : V) (j : Int), x = .ref t ∧ S t = some (.tup [y, .int j]) ∧ ((∃ b, y = .bl b) ∨ ∃ i, y = .int i)
theorem PJ.mono {S S' : Hp} {x : V} (e : TExt S S') (h : PJ S x) : PJ S' x := let ⟨t, y, j, h1, h2, h3⟩ := h; ⟨t, y, j, h1, e _ _ h2, h3⟩
theorem PJ.any {K : PySem.W.Frag} {S : Hp} {x : V} (h : PJ S x) : AnyD K S x := by
  obtain ⟨t, y, j, rfl, h, hy⟩ := h
  refine AnyD.tup h (by show 2 ≤ 1000; decide) fun u hu => ?_
  simp only [List.mem_cons, List.not_mem_nil, or_false] at hu
  rcases hu with rfl | rfl
  · rcases hy with ⟨b, rfl⟩ | ⟨i, rfl⟩
    · exact ⟨_, .bl b⟩
    · exact ⟨_, .int i⟩
  · exact ⟨_, .int j⟩
theorem PJ.offb {r c : Addr} {H : Hp} {x : V} (p : BagAt H r c) (h : PJ H x) : PJ (Off r c H) x := let ⟨t, y, j, h1, h2, h3⟩ := h; ⟨t, y, j, h1, off_tup p h2, h3⟩
def spBent (K : PySem.W.Frag) : Sp := fun vs H Q _ => ∃ (r c l : Addr) (m o : Nat), vs = [.ref r, .ref l, .int (m : Int), .int (o : Int)] ∧ BagAt H r c ∧ LP (Off r c H) l ∧ m ≤ 1000 ∧ o ≤ 1000 ∧ ∀ (x : V) (H' : Hp), Go r c H H' → AnyD K (Off r c H') x → Q x H'
theorem anyOff {K : PySem.W.Frag} {r c : Addr} {H : Hp} (b : BagAt H r c) {xs : List V} (h : ∀ x ∈ xs, PI H x) : ∀ x ∈ xs, AnyD K (Off r c H) x := fun x hx => ((h x hx).off b).any
section
variable {P : Program} {w : World} {K : PySem.W.Frag} {mg : Str → Option Value} {base : Heap}
abbrev bentN : List Str := ["_law_bag_here", "_law_pairs", "_law_many", "_law_more", "_law_at", "_law_new", "_law_way", "_law_pair", "_law_left", "_law_other"]
theorem scBent : FnScope bentN ["_law_bag_here", "_law_pairs", "_law_many", "_law_more"] (defScope sBent) := ⟨rfl, rfl, rfl, by decide +kernel, rfl, by decide +kernel, by decide +kernel⟩
theorem ok_bent {f : Addr} {fd : FuncData} (F : L2.Fun K "_law_bent" "_law_bent" sBent f fd) (T : Gb mg) (cP : Cal P w K mg base 1 "_law_pick" spPick []) (cS : Cal P w K mg base 2 "_law_some" spSome []) : FnOk P w K mg base CX0 3 f fd ["_law_bag_here", "_law_pairs", "_law_many", "_law_more"] (spBent K) := by
  refine F.ok scBent (fun vs H Q E h => ?_) (fun cdv A outer s H vs Q E hr h => ?_)
  · obtain ⟨r, c, l, m, o, rfl, _⟩ := h
    rfl
  · obtain ⟨r, c, l, m, o, rfl, bag, ⟨xs, hl0, lx, px0⟩, hm, ho, k⟩ := h
    refine ⟨_, pss_cons (ps_set (i := 4) scBent.nd rfl (Or.inl rfl) (C8.pe_c cP hr (by decide) (by rfl) (pa_cons (pv 0) (pa_cons (pe_op op_add (pe_callB call_len_seq (by rfl) T.len PySem.boot_len (pa_cons (pv 1) pa_nil)) pe_int) pa_nil))))
      (pss_cons (ps_set (i := 5) scBent.nd rfl (Or.inl rfl) (pe_tup (pa_cons (pe_op op_sub (C8.pe_c cP hr (by decide) (by rfl) (pa_cons (pv 0) (pa_cons (pe_op op_add (pv 2) pe_int) pa_nil))) pe_int) (pa_cons (pe_op op_sub (C8.pe_c cP hr (by decide) (by rfl) (pa_cons (pv 0) (pa_cons (pe_op op_add (pv 3) pe_int) pa_nil))) pe_int) pa_nil))))
      (pss_cons (ps_set (i := 6) scBent.nd rfl (Or.inl rfl) (C8.pe_c cP hr (by decide) (by rfl) (pa_cons (pv 0) (pa_cons pe_int pa_nil))))
      (pss_cons (ps_if (PW.pt (pw_or (pt_cmpR op_eq (pv 6) pe_int (nomark _)) (pw_or1 (pt_cmpR op_eq (pe_callB call_len_seq (by rfl) T.len PySem.boot_len (pa_cons (pv 1) pa_nil)) pe_int (nomark _))))) (pss_one (ps_ret (pe_callTy call_tuple_of (by rfl) T.tup (by decide +kernel) (pa_cons (pe_callB cr_sortedP (by rfl) T.sorted (by decide +kernel) (pa_cons (pe_op op_cat (pv 1) (pe_lst (pa_cons (pv 5) pa_nil))) pa_nil)) pa_nil)))) pss_nil)
      (pss_cons (ps_set (i := 7) scBent.nd rfl (Or.inr rfl) (pe_ix ix_list (pv 1) (pe_callB (call_min2 rfl) (by rfl) T.min (by decide +kernel) (pa_cons (pv 4) (pa_cons (pe_op op_sub (pe_callB call_len_seq (by rfl) T.len PySem.boot_len (pa_cons (pv 1) pa_nil)) pe_int) pa_nil))) (fun _ _ => rfl)))
      (pss_cons (ps_setLc (i := 8) (own := [("_law_other", 9)]) (g := gName 9) rfl scBent.nd rfl rfl (sw_true rfl rfl rfl (by decide +kernel)) (pi_list (pv 1)) (blkOk_by (N := bentN) (sc := defScope sBent) (by decide +kernel)) (fun _ _ _ _ _ => (pg_name (i := 9) scBent.nd rfl (Or.inl rfl))) (fun _ _ _ _ _ => (pts_one (pt_cmpR (r := rNeD K) (op_neD hr.units) (pv 9) (pv 7) (nomark _)))) (fun _ _ _ _ _ => (pv 9)))
      (pss_cons (ps_if (pt_cmpR op_eq (pv 6) pe_int (nomark _)) (pss_one (ps_ret (pe_callTy call_tuple_of (by rfl) T.tup (by decide +kernel) (pa_cons (pv 8) pa_nil)))) pss_nil)
      (pss_cons (ps_if (pt_cmpR op_eq (pv 6) pe_int (nomark _)) (pss_one (ps_ret (pe_callTy call_tuple_of (by rfl) T.tup (by decide +kernel) (pa_cons (pe_callB cr_sortedP (by rfl) T.sorted (by decide +kernel) (pa_cons (pe_op op_cat (pv 8) (pe_lst (pa_cons (pv 5) pa_nil))) pa_nil)) pa_nil)))) pss_nil)
      (pss_cons (ps_if (pt_cmpR op_eq (pv 6) pe_int (nomark _)) (pss_one (ps_ret (pe_callTy call_tuple_of (by rfl) T.tup (by decide +kernel) (pa_cons (pe_revL (pv 1)) pa_nil)))) pss_nil)
      (pss_cons (ps_if (pt_cmpR op_eq (pv 6) pe_int (nomark _)) (pss_one (ps_ret (pe_callTy call_tuple_of (by rfl) T.tup (by decide +kernel) (pa_cons (pe_callB cr_sortedP (by rfl) T.sorted (by decide +kernel) (pa_cons (pe_op op_cat (pv 1) (pe_lst (pa_cons (pv 7) pa_nil))) pa_nil)) pa_nil)))) pss_nil)
      (pss_cons (ps_if (pt_cmpR op_eq (pv 6) pe_int (nomark _)) (pss_one (ps_ret (pe_callTy call_list_of (by rfl) T.list (by decide +kernel) (pa_cons (pv 1) pa_nil)))) pss_nil)
      (pss_cons (ps_if (pt_cmpR op_eq (pv 6) pe_int (nomark _)) (pss_one (ps_ret (pe_callTy call_tuple_of (by rfl) T.tup (by decide +kernel) (pa_cons (pe_op op_cat (pv 8) (pe_lst (pa_cons (C8.pe_c cS hr (by decide) (by rfl) (pa_cons (pv 0) (pa_cons (pe_lst (pa_cons (pe_callTy call_list_of (by rfl) T.list (by decide +kernel) (pa_cons (pv 7) pa_nil)) (pa_cons (pe_op op_catA (pv 7) (pe_tup (pa_cons pe_int pa_nil))) (pa_cons (pe_slice sl_tupA (pv 7) po_none (po_some pe_int)) (pa_cons pe_non (pa_cons (pe_tup (pa_cons (pe_ix ix_tup (pv 7) pe_int (fun _ _ => rfl)) (pa_cons pe_non pa_nil))) (pa_cons (pe_tup (pa_cons (pv 7) pa_nil)) pa_nil))))))) pa_nil))) pa_nil))) pa_nil)))) pss_nil)
      (pss_cons (ps_if (pt_cmpR op_eq (pv 6) pe_int (nomark _)) (pss_one (ps_ret (pe_callTy call_tuple_of (by rfl) T.tup (by decide +kernel) (pa_cons (pe_op op_cat (pe_lst (pa_cons (pe_back (pv 7)) pa_nil)) (pv 8)) pa_nil)))) pss_nil)
      (pss_one (ps_ret (pe_callTy call_tuple_of (by rfl) T.tup (by decide +kernel) (pa_cons (pe_lc (own := [("_law_other", 9)]) (g := gName 9) (tt := tYes) rfl scBent.nd (pi_list (pv 1)) (blkOk_by (N := bentN) (sc := defScope sBent) (by decide +kernel)) (fun _ _ _ _ _ => (pg_name (i := 9) scBent.nd rfl (Or.inl rfl))) (fun _ _ _ _ _ => pts_nil) (fun _ _ _ _ _ => (pe_ifExp (pt_cmpR op_lt (pe_ix (r := rIxT K) ix_tup (pv 9) pe_int (fun _ _ => rfl)) pe_int (nomark _)) (pe_tup (pa_cons (pe_callTy call_bool1 (by rfl) T.bool (by decide +kernel) (pa_cons (pe_ix (r := rIxT K) ix_tup (pv 9) pe_int (fun _ _ => rfl)) pa_nil)) (pa_cons (pe_ix (r := rIxT K) ix_tup (pv 9) pe_int (fun _ _ => rfl)) pa_nil))) (pv 9)))) pa_nil)))))))))))))))), ?_⟩
    obtain ⟨nla, nlc, hl⟩ := off_some hl0
    have px : ∀ x ∈ xs, PI H x := fun x hx => (px0 x hx).mono (TExt.of off_le)
    have done : ∀ {H' : Hp} {ys : List V}, Go r c H H' → ys.length ≤ 1000 → (∀ y ∈ ys, AnyD K (Off r c H') y) → ∀ q, H' q = none → Q (.ref q) (upd H' q (.tup ys)) := fun {H' ys} g ly ay q nq => by
      have gq := Go.new (o := .tup ys) g.1 nq
      exact k _ _ (g.trans gq) (AnyD.tup (off_tup gq.1 upd_same) ly fun y hy => (ay y hy).ext gq.off)
    refine ⟨_, rfl, _, rfl, l, _, rfl, .inl (SqL.of hl), _, _, rfl, rfl, r, c, _, rfl, bag, by omega, by omega, fun n H1 n0 n1 g1 => ?_⟩
    refine ⟨_, rfl, _, rfl, _, _, rfl, rfl, r, c, _, rfl, g1.1, by omega, by omega, fun a1 H2 a10 a11 g2 => ⟨_, _, rfl, rfl, _, rfl, _, rfl, _, _, rfl, rfl, r, c, _, rfl, g2.1, by omega, by omega, fun a2 H3 a20 a21 g3 => ⟨_, _, rfl, rfl, by show 2 ≤ sizeLine; decide, fun t nt => ?_⟩⟩⟩
    have xt := Ext.upd (o := .tup [V.int (a1 - 1), .int (a2 - 1)]) nt
    have gt := Go.of_ext g3.1 xt
    refine ⟨_, rfl, r, c, 9, rfl, gt.1, by decide, by decide, fun way H5 w0 w9 g5 => ?_⟩
    have g13 := (g1.trans g2).trans g3
    have g15 := (g13.trans gt).trans g5
    have ht5 : H5 t = some (.tup [V.int (a1 - 1), .int (a2 - 1)]) := g5.tup gt.1 upd_same
    have hl5 := g15.2 _ _ nla nlc hl
    have px5 : ∀ x ∈ xs, PI H5 x := fun x hx => (px x hx).mono (g15.text bag)
    have pt5 : PI H5 (.ref t) := ⟨t, _, _, rfl, ht5⟩
    refine ⟨_, rfl, rfl, _, rfl, ?_⟩
    refine ite2 (fun _ => iteT ?_) (fun _ => ?_)
    · skip
      refine ⟨_, rfl, _, rfl, by show 1 ≤ sizeLine; decide, fun q nq => ?_⟩
      have xq := Ext.upd (o := .lst [V.ref t]) nq
      refine ⟨l, q, _, _, rfl, rfl, xq _ _ hl5, upd_same, Nat.le_trans (show _ ≤ 1000 by show xs.length + 1 ≤ 1000; omega) (by decide), fun p np => ?_⟩
      have xp := Ext.upd (o := .lst (xs ++ [V.ref t])) np
      have gp := g15.trans (Go.of_ext g15.1 (xq.trans xp))
      have pz : ∀ x ∈ xs ++ [V.ref t], PI _ x := fun x hx => by
        rcases List.mem_append.mp hx with z | z
        · exact (px5 x z).mono (TExt.of (xq.trans xp))
        · rw [List.mem_singleton.mp z]; exact pt5.mono (TExt.of (xq.trans xp))
      refine ⟨p, _, rfl, SqL.of upd_same, pz, fun ys s pm ns => ?_⟩
      have xs' := Ext.upd (o := .lst ys) ns
      have gs := gp.trans (Go.of_ext gp.1 xs')
      have pys : ∀ y ∈ ys, PI _ y := fun y hy => (pz y (pm.mem_iff.mp hy)).mono (TExt.of xs')
      have lys : ys.length ≤ 1000 := by rw [pm.length_eq, List.length_append]; show xs.length + 1 ≤ 1000; omega
      exact ⟨s, ys, rfl, .inl ⟨SqL.of upd_same, done gs lys (anyOff gs.1 pys)⟩⟩
    · refine ⟨_, rfl, l, _, rfl, .inl (SqL.of hl5), rfl, _, rfl, ?_⟩
      refine ite2 (fun _ => ?_) (fun q0 => ?_)
      · skip
        refine ⟨_, rfl, _, rfl, by show 1 ≤ sizeLine; decide, fun q nq => ?_⟩
        have xq := Ext.upd (o := .lst [V.ref t]) nq
        refine ⟨l, q, _, _, rfl, rfl, xq _ _ hl5, upd_same, Nat.le_trans (show _ ≤ 1000 by show xs.length + 1 ≤ 1000; omega) (by decide), fun p np => ?_⟩
        have xp := Ext.upd (o := .lst (xs ++ [V.ref t])) np
        have gp := g15.trans (Go.of_ext g15.1 (xq.trans xp))
        have pz : ∀ x ∈ xs ++ [V.ref t], PI _ x := fun x hx => by
          rcases List.mem_append.mp hx with z | z
          · exact (px5 x z).mono (TExt.of (xq.trans xp))
          · rw [List.mem_singleton.mp z]; exact pt5.mono (TExt.of (xq.trans xp))
        refine ⟨p, _, rfl, SqL.of upd_same, pz, fun ys s pm ns => ?_⟩
        have xs' := Ext.upd (o := .lst ys) ns
        have gs := gp.trans (Go.of_ext gp.1 xs')
        have pys : ∀ y ∈ ys, PI _ y := fun y hy => (pz y (pm.mem_iff.mp hy)).mono (TExt.of xs')
        have lys : ys.length ≤ 1000 := by rw [pm.length_eq, List.length_append]; show xs.length + 1 ≤ 1000; omega
        exact ⟨s, ys, rfl, .inl ⟨SqL.of upd_same, done gs lys (anyOff gs.1 pys)⟩⟩
      · have xne : 0 < xs.length := by
          apply Nat.pos_of_ne_zero
          intro z
          exact q0 (by rw [z]; rfl)
        -- the pair, and what is left
        refine ⟨_, rfl, _, rfl, _, rfl, l, _, rfl, .inl (SqL.of hl5), _, _, rfl, rfl, _, _, rfl, ?_⟩
        have j0 : 0 ≤ (if (xs.length : Int) - 1 < n then (xs.length : Int) - 1 else n) := by split <;> omega
        have j1 : (if (xs.length : Int) - 1 < n then (xs.length : Int) - 1 else n) < (xs.length : Int) := by split <;> omega
        generalize (if (xs.length : Int) - 1 < n then (xs.length : Int) - 1 else n) = j at *
        have gj : xs[j.toNat]? = some (xs[j.toNat]'(by omega)) := List.getElem?_eq_getElem _
        refine ⟨l, _, j, _, rfl, rfl, SqL.of hl5, at_of (j := j.toNat) (by omega) gj, ?_⟩
        have pair := px5 _ (List.mem_of_getElem? gj)
        generalize xs[j.toNat]'(by omega) = pr at *
        obtain ⟨tp, rfl, htp⟩ := prL_of pair
        have lp : ∃ i1 i2, prL H5 (.ref tp) = [i1, i2] := by
          obtain ⟨t', i1, i2, e1, e2⟩ := pair
          cases e1
          exact ⟨i1, i2, by simp only [prL, e2]⟩
        obtain ⟨i1, i2, elp⟩ := lp
        rw [elp] at htp
        refine ⟨_, rfl, l, rfl, ⟨_, SqL.of hl5⟩, fun D nD => ?_⟩
        refine lc_gen (p := fun i => !PyData.eqv (.tuple ((prL H5 (xs.getD i .non)).map .int)) (.tuple ([i1, i2].map .int))) walk_list nD (by omega) (fun i y _ => y = xs.getD i .non) (fun _ _ _ _ _ z => z) (fun H' e => SqL.of (e _ _ hl5)) ?_ ?_
        · rintro i y H6 H' R N hi e6 ⟨rfl, hy⟩ hR hN
          have gy : xs.getD i .non = y := by rw [List.getD_eq_getElem?_getD, hy]; rfl
          rw [gy] at hR hN
          obtain ⟨ty, ey, hty⟩ := prL_of (px5 y (List.mem_of_getElem? hy))
          refine ⟨rfl, _, rfl, _, rfl, .tuple ((prL H5 y).map .int), .tuple ([i1, i2].map .int), ?_, .tup (SqT.of (e6 _ _ htp)) (dp_ints [i1, i2]), shaped_I _, shaped_I _, _, rfl, ?_⟩
          · rw [ey]
            rw [ey] at hty
            exact .tup (SqT.of (e6 _ _ hty)) (dp_ints _)
          · cases hb : (!PyData.eqv (.tuple ((prL H5 y).map .int)) (.tuple ([i1, i2].map .int))) with
            | true => exact iteT ⟨_, rfl, hR hb _ H' Ext.rfl' rfl⟩
            | false => exact iteF (hN hb H' Ext.rfl')
        intro zs H6 e6 hD pz
        have ez := vals_of (f := fun i => xs.getD i .non) pz
        have lz : zs.length ≤ 20 := by
          rw [← Paired.length pz]
          exact Nat.le_trans (List.length_filter_le _ _) (by rw [List.length_range]; exact lx)
        have pzs5 : ∀ z ∈ zs, PI H5 z := fun z hz => by
          rw [ez] at hz
          obtain ⟨i, hi, rfl⟩ := List.mem_map.mp hz
          have lt := List.mem_range.mp (List.mem_filter.mp hi).1
          rw [List.getD_eq_getElem?_getD, List.getElem?_eq_getElem lt]
          exact px5 _ (List.getElem_mem lt)
        clear ez pz
        have g6 := g15.trans (Go.of_ext g15.1 e6)
        have hl6 := e6 _ _ hl5
        have px6 : ∀ x ∈ xs, PI H6 x := fun x hx => (px5 x hx).mono (TExt.of e6)
        have pz6 : ∀ x ∈ zs, PI H6 x := fun x hx => (pzs5 x hx).mono (TExt.of e6)
        have pt6 : PI H6 (.ref t) := pt5.mono (TExt.of e6)
        have htp6 : H6 tp = some (.tup [V.int i1, .int i2]) := e6 _ _ htp
        have pp6 : PI H6 (.ref tp) := ⟨tp, _, _, rfl, htp6⟩
        refine ⟨_, rfl, rfl, _, rfl, ?_⟩
        refine ite2 (fun _ => ?_) (fun _ => ?_)
        · exact ⟨_, rfl, D, zs, rfl, .inl ⟨SqL.of hD, done g6 (by omega) (anyOff g6.1 pz6)⟩⟩
        refine ⟨_, rfl, rfl, _, rfl, ?_⟩
        refine ite2 (fun _ => ?_) (fun _ => ?_)
        · skip
          refine ⟨_, rfl, _, rfl, by show 1 ≤ sizeLine; decide, fun q nq => ?_⟩
          have xq := Ext.upd (o := .lst [V.ref t]) nq
          refine ⟨D, q, _, _, rfl, rfl, xq _ _ hD, upd_same, Nat.le_trans (show _ ≤ 1000 by show zs.length + 1 ≤ 1000; omega) (by decide), fun p np => ?_⟩
          have xp := Ext.upd (o := .lst (zs ++ [V.ref t])) np
          have gp := g6.trans (Go.of_ext g6.1 (xq.trans xp))
          have pz : ∀ x ∈ zs ++ [V.ref t], PI _ x := fun x hx => by
            rcases List.mem_append.mp hx with z | z
            · exact (pz6 x z).mono (TExt.of (xq.trans xp))
            · rw [List.mem_singleton.mp z]; exact pt6.mono (TExt.of (xq.trans xp))
          refine ⟨p, _, rfl, SqL.of upd_same, pz, fun ys s pm ns => ?_⟩
          have xs' := Ext.upd (o := .lst ys) ns
          have gs := gp.trans (Go.of_ext gp.1 xs')
          have pys : ∀ y ∈ ys, PI _ y := fun y hy => (pz y (pm.mem_iff.mp hy)).mono (TExt.of xs')
          have lys : ys.length ≤ 1000 := by rw [pm.length_eq, List.length_append]; show zs.length + 1 ≤ 1000; omega
          exact ⟨s, ys, rfl, .inl ⟨SqL.of upd_same, done gs lys (anyOff gs.1 pys)⟩⟩
        refine ⟨_, rfl, rfl, _, rfl, ?_⟩
        refine ite2 (fun _ => ?_) (fun _ => ?_)
        · refine ⟨_, rfl, l, xs, rfl, SqL.of hl6, fun p np => ?_⟩
          have xp := Ext.upd (o := .lst xs.reverse) np
          have gp := g6.trans (Go.of_ext g6.1 xp)
          exact ⟨p, _, rfl, .inl ⟨SqL.of upd_same, done gp (by rw [List.length_reverse]; omega) (anyOff gp.1 fun x hx => (px6 x (List.mem_reverse.mp hx)).mono (TExt.of xp))⟩⟩
        refine ⟨_, rfl, rfl, _, rfl, ?_⟩
        refine ite2 (fun _ => ?_) (fun _ => ?_)
        · skip
          refine ⟨_, rfl, _, rfl, by show 1 ≤ sizeLine; decide, fun q nq => ?_⟩
          have xq := Ext.upd (o := .lst [V.ref tp]) nq
          refine ⟨l, q, _, _, rfl, rfl, xq _ _ hl6, upd_same, Nat.le_trans (show _ ≤ 1000 by show xs.length + 1 ≤ 1000; omega) (by decide), fun p np => ?_⟩
          have xp := Ext.upd (o := .lst (xs ++ [V.ref tp])) np
          have gp := g6.trans (Go.of_ext g6.1 (xq.trans xp))
          have pz : ∀ x ∈ xs ++ [V.ref tp], PI _ x := fun x hx => by
            rcases List.mem_append.mp hx with z | z
            · exact (px6 x z).mono (TExt.of (xq.trans xp))
            · rw [List.mem_singleton.mp z]; exact pp6.mono (TExt.of (xq.trans xp))
          refine ⟨p, _, rfl, SqL.of upd_same, pz, fun ys s pm ns => ?_⟩
          have xs' := Ext.upd (o := .lst ys) ns
          have gs := gp.trans (Go.of_ext gp.1 xs')
          have pys : ∀ y ∈ ys, PI _ y := fun y hy => (pz y (pm.mem_iff.mp hy)).mono (TExt.of xs')
          have lys : ys.length ≤ 1000 := by rw [pm.length_eq, List.length_append]; show xs.length + 1 ≤ 1000; omega
          exact ⟨s, ys, rfl, .inl ⟨SqL.of upd_same, done gs lys (anyOff gs.1 pys)⟩⟩
        refine ⟨_, rfl, rfl, _, rfl, ?_⟩
        refine ite2 (fun _ => ?_) (fun _ => ?_)
        · refine ⟨_, rfl, l, xs, rfl, .inl (SqL.of hl6), fun p np => ?_⟩
          have gp := Go.new (o := .lst xs) g6.1 np
          exact k _ _ (g6.trans gp) ⟨_, TD.lst (off_at (g6.1.ne np) upd_same)⟩
        refine ⟨_, rfl, rfl, _, rfl, ?_⟩
        refine ite2 (fun _ => ?_) (fun _ => ?_)
        · refine ⟨_, rfl, _, rfl, ⟨_, rfl, tp, _, rfl, .inr (SqT.of htp6), fun p1 n1 => ?_⟩⟩
          have x1 := Ext.upd (o := .lst [V.int i1, .int i2]) n1
          have hp1 : (upd H6 p1 (.lst [V.int i1, .int i2])) p1 = some (.lst [V.int i1, .int i2]) := upd_same
          have ht1 := x1 _ _ htp6
          generalize upd H6 p1 (.lst [V.int i1, .int i2]) = J1 at *
          refine ⟨_, rfl, by show 1 ≤ sizeLine; decide, fun q1 m1 => ?_⟩
          have xq1 := Ext.upd (o := .tup [V.int 0]) m1
          refine cat_any (xq1 _ _ ht1) upd_same (by show 2 + 1 ≤ 1000; decide) fun p2 J2 x2' hp2 => ?_
          have x2 := xq1.trans x2'
          have ht2 := x2 _ _ ht1
          refine ⟨_, rfl, 1, rfl, sl_any ht2 fun p3 J3 x3 hp3 => ?_⟩
          have ht3 := x3 _ _ ht2
          refine ⟨_, rfl, tp, _, 0, .int i1, rfl, rfl, SqT.of ht3, rfl, by show 2 ≤ sizeLine; decide, fun p4 n4 => ?_⟩
          have x4 := Ext.upd (o := .tup [V.int i1, .non]) n4
          have hp4 : (upd J3 p4 (.tup [V.int i1, .non])) p4 = some (.tup [V.int i1, .non]) := upd_same
          have ht4 := x4 _ _ ht3
          generalize upd J3 p4 (.tup [V.int i1, .non]) = J4 at *
          refine ⟨_, rfl, by show 1 ≤ sizeLine; decide, fun p5 n5 => ?_⟩
          have x5 := Ext.upd (o := .tup [V.ref tp]) n5
          have hp5 : (upd J4 p5 (.tup [V.ref tp])) p5 = some (.tup [V.ref tp]) := upd_same
          have ht5' := x5 _ _ ht4
          generalize upd J4 p5 (.tup [V.ref tp]) = J5 at *
          refine ⟨by show 6 ≤ sizeLine; decide, fun q2 nq2 => ?_⟩
          have x6 := Ext.upd (o := .lst [V.ref p1, .ref p2, .ref p3, .non, .ref p4, .ref p5]) nq2
          have x25 := x2.trans (x3.trans (x4.trans x5))
          have g5' := g6.trans (Go.of_ext g6.1 (x1.trans (x25.trans x6)))
          have nq := (g6.trans (Go.of_ext g6.1 (x1.trans x25))).1.ne nq2
          have hq2 : (upd J5 q2 (.lst [V.ref p1, .ref p2, .ref p3, .non, .ref p4, .ref p5])) q2 = some (.lst [V.ref p1, .ref p2, .ref p3, .non, .ref p4, .ref p5]) := upd_same
          have d1 := x6 _ _ (x25 _ _ hp1)
          have np1 := (g6.1).ne n1
          have d2 := x6 _ _ (x5 _ _ (x4 _ _ (x3 _ _ hp2)))
          have d3 := x6 _ _ (x5 _ _ (x4 _ _ hp3))
          have d4 := x6 _ _ (x5 _ _ hp4)
          have d5 := x6 _ _ hp5
          have d6 := x6 _ _ ht5'
          have hD' := x6 _ _ (x25 _ _ (x1 _ _ hD))
          have pz' : ∀ x ∈ zs, PI _ x := fun x hx => (pz6 x hx).mono (TExt.of (x1.trans (x25.trans x6)))
          generalize upd J5 q2 (.lst [V.ref p1, .ref p2, .ref p3, .non, .ref p4, .ref p5]) = J6 at *
          refine ⟨r, c, q2, _, rfl, g5'.1, nq.1, nq.2, hq2, (fun z => nomatch z), by show 6 ≤ 1000; decide, fun y J7 hy g7 => ?_⟩
          have gy := g5'.trans g7
          have any7 : AnyD K (Off r c J7) y := by
            refine AnyD.ext g7.off ?_
            simp only [List.mem_cons, List.not_mem_nil, or_false] at hy
            have anyP : AnyD K (Off r c J6) (.ref tp) := ⟨_, TD.ints (ns := [i1, i2]) (off_tup g5'.1 d6) (by show 2 ≤ 1000; decide)⟩
            rcases hy with rfl | rfl | rfl | rfl | rfl | rfl
            · exact ⟨_, TD.lst (off_at np1 d1)⟩
            · exact ⟨_, TD.ints (ns := [i1, i2, 0]) (off_tup g5'.1 d2) (by show 3 ≤ 1000; decide)⟩
            · exact ⟨_, TD.ints (ns := [i1]) (off_tup g5'.1 d3) (by show 1 ≤ 1000; decide)⟩
            · exact ⟨_, TD.non⟩
            · refine AnyD.tup (off_tup g5'.1 d4) (by show 2 ≤ 1000; decide) fun u hu => ?_
              simp only [List.mem_cons, List.not_mem_nil, or_false] at hu
              rcases hu with rfl | rfl
              · exact ⟨_, .int i1⟩
              · exact ⟨_, .non⟩
            · refine AnyD.tup (off_tup g5'.1 d5) (by show 1 ≤ 1000; decide) fun u hu => ?_
              rw [List.mem_singleton.mp hu]
              exact anyP
          have nD1 := g15.1.ne nD
          have hD7 := g7.2 _ _ nD1.1 nD1.2 hD'
          have pz7 : ∀ x ∈ zs, PI J7 x := fun x hx => (pz' x hx).mono (g7.text g5'.1)
          refine ⟨by show 1 ≤ sizeLine; decide, fun q3 n3 => ?_⟩
          have xa := Ext.upd (o := .lst [y]) n3
          refine ⟨D, q3, _, _, rfl, rfl, xa _ _ hD7, upd_same, Nat.le_trans (show _ ≤ 1000 by show zs.length + 1 ≤ 1000; omega) (by decide), fun q4 n4' => ?_⟩
          have xb := Ext.upd (o := .lst (zs ++ [y])) n4'
          have gp := gy.trans (Go.of_ext gy.1 (xa.trans xb))
          have gb := Go.of_ext gy.1 (xa.trans xb)
          refine ⟨q4, _, rfl, .inl ⟨SqL.of upd_same, done gp (by rw [List.length_append]; show zs.length + 1 ≤ 1000; omega) fun u hu => ?_⟩⟩
          rcases List.mem_append.mp hu with z | z
          · exact anyOff gp.1 (fun x hx => (pz7 x hx).mono (TExt.of (xa.trans xb))) u z
          · rw [List.mem_singleton.mp z]
            exact any7.ext gb.off
        refine ⟨_, rfl, rfl, _, rfl, ?_⟩
        refine ite2 (fun _ => ?_) (fun _ => ?_)
        · refine ⟨_, rfl, tp, _, rfl, htp6, by show 2 ≤ 10; decide, fun p1 n1 => ?_⟩
          have x1 := Ext.upd (o := .tup [V.int i1, .int i2].reverse) n1
          have hp1 : (upd H6 p1 (.tup [V.int i1, .int i2].reverse)) p1 = some (.tup [V.int i2, .int i1]) := upd_same
          generalize upd H6 p1 (.tup [V.int i1, .int i2].reverse) = J1 at *
          refine ⟨by show 1 ≤ sizeLine; decide, fun q nq => ?_⟩
          have xq := Ext.upd (o := .lst [V.ref p1]) nq
          refine ⟨_, rfl, q, D, _, _, rfl, rfl, upd_same, xq _ _ (x1 _ _ hD), Nat.le_trans (show _ ≤ 1000 by show 1 + zs.length ≤ 1000; omega) (by decide), fun p np => ?_⟩
          have xp := Ext.upd (o := .lst ([V.ref p1] ++ zs)) np
          have xx := x1.trans (xq.trans xp)
          have gp := g6.trans (Go.of_ext g6.1 xx)
          have pz : ∀ x ∈ [V.ref p1] ++ zs, PI _ x := fun x hx => by
            rcases List.mem_append.mp hx with z | z
            · rw [List.mem_singleton.mp z]; exact ⟨p1, i2, i1, rfl, xp _ _ (xq _ _ hp1)⟩
            · exact (pz6 x z).mono (TExt.of xx)
          exact ⟨p, _, rfl, .inl ⟨SqL.of upd_same, done gp (by rw [List.length_append]; show 1 + zs.length ≤ 1000; omega) (anyOff gp.1 pz)⟩⟩
        refine ⟨_, rfl, l, rfl, ⟨_, SqL.of hl6⟩, fun D2 nD2 => ?_⟩
        refine lc_gen (p := fun _ => true) walk_list nD2 (by omega) (fun _ y S => PJ S y) (fun _ _ _ _ t z => z.mono t) (fun H' e => SqL.of (e _ _ hl6)) ?_ ?_
        · rintro i y J J' R N hi e7 ⟨rfl, hy⟩ hR hN
          obtain ⟨ty, ya, yb, rfl, hty⟩ := px6 y (List.mem_of_getElem? hy)
          have hty7 := e7 _ _ hty
          refine ⟨rfl, ?_⟩
          refine tyes_in ?_
          refine ⟨_, rfl, ty, _, 0, .int ya, rfl, rfl, SqT.of hty7, rfl, _, _, rfl, rfl, _, rfl, ?_⟩
          refine ite2 (fun _ => ?_) (fun _ => ?_)
          · refine ⟨_, rfl, ty, _, 0, .int ya, rfl, rfl, SqT.of hty7, rfl, .inl ⟨ya, rfl, _, rfl, ty, _, 1, .int yb, rfl, rfl, SqT.of hty7, rfl, by show 2 ≤ sizeLine; decide, fun p np => ?_⟩⟩
            exact hR rfl _ _ (Ext.upd np) ⟨p, _, yb, rfl, upd_same, .inl ⟨_, rfl⟩⟩
          · exact ⟨_, rfl, hR rfl _ _ Ext.rfl' ⟨ty, _, yb, rfl, hty7, .inr ⟨ya, rfl⟩⟩⟩
        intro ys J e7 hD2 pp
        have g7 := g6.trans (Go.of_ext g6.1 e7)
        have lys : ys.length ≤ 1000 := by
          rw [← Paired.length pp]
          exact Nat.le_trans (List.length_filter_le _ _) (by rw [List.length_range]; omega)
        have anyl : ∀ y ∈ ys, PJ J y := by
          clear hD2 lys
          generalize (List.range xs.length).filter (fun _ => true) = rr at pp
          induction pp with
          | nil => exact fun _ z => nomatch z
          | cons a _ ih => 
            intro y hy
            rcases List.mem_cons.mp hy with rfl | hy
            · exact a
            · exact ih y hy
        exact ⟨D2, ys, rfl, .inl ⟨SqL.of hD2, done g7 lys fun y hy => PJ.any (PJ.offb g7.1 (anyl y hy))⟩⟩
end
end B46

set_option Elab.async false
set_option linter.all false
set_option maxRecDepth 100000
set_option maxHeartbeats 4000000
set_option pp.maxSteps 60
/-! Things made one after another; lists of them. -/
namespace B46
open PySem L2
/-- a list of things -/
def Ths (K : PySem.W.Frag) (S : Hp) (q : Addr) (n : Nat) : Prop := ∃ xs, S q = some (.lst xs) ∧ xs.length ≤ n ∧ ∀ x ∈ xs, AnyD K S x
theorem Ths.ext {K : PySem.W.Frag} {S S' : Hp} {q : Addr} {n : Nat} (e : Ext S S') (h : Ths K S q n) : Ths K S' q n := let ⟨xs, h1, h2, h3⟩ := h; ⟨xs, e _ _ h1, h2, fun x hx => (h3 x hx).ext e⟩
section
variable {K : PySem.W.Frag} {r c : Addr} {I : Hp → Prop} {σ : L2.St}
def StG (r c : Addr) (I : Hp → Prop) : Prop := ∀ H H', BagAt H r c → Go r c H H' → I H → I H'
def MkE (K : PySem.W.Frag) (r c : Addr) (I : Hp → Prop) (σ : L2.St) (te : TE) : Prop := ∀ (H : Hp) (Q : VK), BagAt H r c → I H → (∀ x H', Go r c H H' → AnyD K (Off r c H') x → Q x H') → te σ H Q
def MkA (K : PySem.W.Frag) (r c : Addr) (I : Hp → Prop) (σ : L2.St) (ta : TA) (n : Nat) : Prop := ∀ (H : Hp) (Q : List V → Hp → Prop), BagAt H r c → I H → (∀ xs H', Go r c H H' → xs.length = n → (∀ x ∈ xs, AnyD K (Off r c H') x) → Q xs H') → ta σ H Q
theorem mk_nil : MkA K r c I σ tNil 0 := fun H Q b i k => k [] H (Go.refl b) rfl fun _ z => nomatch z
theorem mk_cons {te : TE} {ta : TA} {n : Nat} (st : StG r c I) (h : MkE K r c I σ te) (g : MkA K r c I σ ta n) : MkA K r c I σ (tCons te ta) (n + 1) := fun H Q b i k =>
  h H _ b i fun x H1 g1 a1 => g H1 _ g1.1 (st _ _ b g1 i) fun xs H2 g2 l2 a2 => k (x :: xs) H2 (g1.trans g2) (by rw [List.length_cons, l2]) fun y hy => by
    rcases List.mem_cons.mp hy with rfl | hy
    · exact a1.ext g2.off
    · exact a2 y hy
theorem mk_tup {ta : TA} {n : Nat} (g : MkA K r c I σ ta n) (hn : n ≤ 1000) : MkE K r c I σ (tTup ta) := fun H Q b i k =>
  g H _ b i fun xs H1 g1 l1 a1 => ⟨Nat.le_trans (by rw [l1]; exact hn) (by decide), fun p np => by
    have gp := Go.new (o := .tup xs) g1.1 np
    exact k _ _ (g1.trans gp) (AnyD.tup (off_tup gp.1 upd_same) (by rw [l1]; exact hn) fun y hy => (a1 y hy).ext gp.off)⟩
theorem mk_lst {ta : TA} {n : Nat} (g : MkA K r c I σ ta n) (hn : n ≤ 1000) : MkE K r c I σ (tLst ta) := fun H Q b i k =>
  g H _ b i fun xs H1 g1 l1 a1 => ⟨Nat.le_trans (by rw [l1]; exact hn) (by decide), fun p np => by
    have gp := Go.new (o := .lst xs) g1.1 np
    exact k _ _ (g1.trans gp) ⟨_, TD.lst (off_at (g1.1.ne np) upd_same)⟩⟩
theorem mk_non : MkE K r c I σ (tC .non) := fun H Q b _ k => k _ _ (Go.refl b) ⟨_, .non⟩
theorem mk_int {i : Int} : MkE K r c I σ (tC (.int i)) := fun H Q b _ k => k _ _ (Go.refl b) ⟨_, .int i⟩
theorem mk_bl {i : Bool} : MkE K r c I σ (tC (.bl i)) := fun H Q b _ k => k _ _ (Go.refl b) ⟨_, .bl i⟩
theorem mk_str {i : Str} : MkE K r c I σ (tC (.str i)) := fun H Q b _ k => k _ _ (Go.refl b) ⟨_, TD.str i⟩
theorem mk_neg {i : Int} : MkE K r c I σ (tUn (rU fun i => .int (-i)) (tC (.int i))) := fun H Q b _ k => ⟨i, rfl, k _ _ (Go.refl b) ⟨_, .int (-i)⟩⟩
theorem mk_dnew : MkE K r c I σ tDNewK := fun H Q b _ k p np => k _ _ (Go.new b np) ⟨_, TD.dct (off_at (b.ne np) upd_same)⟩
theorem mk_disp1 {x y : Int} : MkE K r c I σ (tDisp [(tC (.int x), tC (.int y))]) := fun H Q b _ k p np =>
  ⟨upd_same, [(.inl x, .int y)], rfl, by show 1 ≤ 15; decide, k _ _ (Go.of_ext b fun d o h => by rw [upd_ne (ne_of_none h np), upd_ne (ne_of_none h np)]; exact h) ⟨_, TD.dct (off_at (b.ne np) upd_same)⟩⟩
theorem mk_ths {ta : TA} {n : Nat} {H : Hp} {Q : VK} (g : MkA K r c I σ ta n) (hn : n ≤ 1000) (b : BagAt H r c) (i : I H) (k : ∀ l H', Go r c H H' → Ths K (Off r c H') l n → Q (.ref l) H') : tLst ta σ H Q :=
  g H _ b i fun xs H1 g1 l1 a1 => ⟨Nat.le_trans (by rw [l1]; exact hn) (by decide), fun p np => by
    have gp := Go.new (o := .lst xs) g1.1 np
    exact k _ _ (g1.trans gp) ⟨xs, off_at (g1.1.ne np) upd_same, Nat.le_of_eq l1, fun y hy => (a1 y hy).ext gp.off⟩⟩
theorem cat_ths {H : Hp} {Q : VK} {q l : Addr} {n m : Nat} (b : BagAt H r c) (h1 : Ths K (Off r c H) q n) (h2 : Ths K (Off r c H) l m) (nm : n + m ≤ 10000) (k : ∀ p H', Go r c H H' → Ths K (Off r c H') p (n + m) → Q (.ref p) H') : rCat (.ref q) (.ref l) H Q := by
  obtain ⟨xs, hx, lx, ax⟩ := h1
  obtain ⟨ys, hy, ly, ay⟩ := h2
  refine ⟨q, l, xs, ys, rfl, rfl, off_le _ _ hx, off_le _ _ hy, Nat.le_trans (show xs.length + ys.length ≤ 10000 by omega) (by decide), fun p np => ?_⟩
  have gp := Go.new (o := .lst (xs ++ ys)) b np
  refine k _ _ gp ⟨_, off_at (b.ne np) upd_same, by rw [List.length_append]; omega, fun z hz => ?_⟩
  rcases List.mem_append.mp hz with h | h
  · exact (ax z h).ext gp.off
  · exact (ay z h).ext gp.off
end
theorem if_two {i j k : Nat} {σ : L2.St} {H : Hp} {Q : VK} {s n : Int} {x y : V} (h8 : σ[k]? = some (some (.int s))) (hi : σ[i]? = some (some x)) (hj : σ[j]? = some (some y)) (h : ∀ z, z = x ∨ z = y → Q z H) : tIf (tTest (tOp rEq (tVar k) (tC (.int n)))) (tVar i) (tVar j) σ H Q := by
  refine ⟨_, h8, rfl, _, rfl, ?_⟩
  exact ite2 (fun _ => ⟨_, hi, h _ (.inl rfl)⟩) (fun _ => ⟨_, hj, h _ (.inr rfl)⟩)
/-- what the law holds -/
structure LawH (r c o1 o2 : Addr) (L M : List Bar) (H : Hp) : Prop where
  bag : BagAt H r c
  b1 : BL (Off r c H) o1 L
  b2 : BL (Off r c H) o2 M
theorem LawH.go {r c o1 o2 : Addr} {L M : List Bar} {H H' : Hp} (g : Go r c H H') (h : LawH r c o1 o2 L M H) : LawH r c o1 o2 L M H' := ⟨g.1, h.b1.ext g.off, h.b2.ext g.off⟩
theorem BL.lst {S : Hp} {o : Addr} {L : List Bar} (h : BL S o L) : ∃ xs, S o = some (.lst xs) ∧ xs.length = L.length := let ⟨as, h1, h2⟩ := h; ⟨_, h1, by rw [List.length_map, h2.len]⟩
end B46

set_option Elab.async false
set_option linter.all false
set_option maxRecDepth 100000
set_option maxHeartbeats 4000000
set_option pp.maxSteps 600
/-! law. -/
namespace B46
open PySem L2
abbrev sLaw : Stmt := top 43
def spLaw (K : PySem.W.Frag) : Sp := fun vs H Q _ => ∃ (a : Addr) (ns : List Int), vs = [.ref a] ∧ SqL K H a (ns.map V.int) ∧ ns.length ≤ 63 ∧ ∀ H', Q (.bl true) H'
theorem Ths.le {K : PySem.W.Frag} {S : Hp} {q : Addr} {n m : Nat} (h : Ths K S q n) (l : n ≤ m) : Ths K S q m := let ⟨xs, h1, h2, h3⟩ := h; ⟨xs, h1, Nat.le_trans h2 l, h3⟩
theorem st_law {r c o1 o2 : Addr} {L M : List Bar} : StG r c (LawH r c o1 o2 L M) := fun _ _ _ g h => h.go g
theorem rg_ints (n : Nat) : ∃ ns : List Int, rgV 0 (n : Int) = ns.map V.int ∧ ns.length = n := ⟨(List.range ((n : Int) - 0).toNat).map fun i => (0 : Int) + (i : Nat), by rw [rgV, List.map_map]; rfl, by rw [List.length_map, List.length_range]; omega⟩
/-- pairs of a side and a thing -/
theorem sided {K : PySem.W.Frag} {r c : Addr} {H : Hp} {s : Int} {rr : List Nat} {ys : List V} (b : BagAt H r c) (h : Paired (fun _ y => ∃ t x, y = V.ref t ∧ H t = some (.tup [.int s, x]) ∧ AnyD K (Off r c H) x) rr ys) : ∀ y ∈ ys, AnyD K (Off r c H) y := by
  induction h with
  | nil => exact fun _ z => nomatch z
  | cons a _ ih =>
    intro y hy
    rcases List.mem_cons.mp hy with rfl | hy
    · obtain ⟨t, x, rfl, ht, hx⟩ := a
      refine AnyD.tup (off_tup b ht) (by show 2 ≤ 1000; decide) fun u hu => ?_
      simp only [List.mem_cons, List.not_mem_nil, or_false] at hu
      rcases hu with rfl | rfl
      · exact ⟨_, .int s⟩
      · exact hx
    · exact ih y hy
theorem cut_ints (ns : List Int) (lo hi : Option Int) : ∃ ms : List Int, cutV (ns.map V.int) lo hi = ms.map V.int ∧ ms.length ≤ ns.length := by
  refine ⟨(ns.drop (HT.sIx ns.length 0 lo)).take (HT.sIx ns.length ns.length hi - HT.sIx ns.length 0 lo), ?_, ?_⟩
  · unfold cutV
    rw [List.length_map, List.map_take, List.map_drop]
  · rw [List.length_take, List.length_drop]; omega
section
variable {P : Program} {w : World} {K : PySem.W.Frag} {mg : Str → Option Value} {base : Heap}
abbrev lawN : List Str := ["_law_script", "_law_bag_here", "_law_one", "_law_other", "_law_e", "_law_things", "_law_turn", "_law_pairs", "_law_side", "_law_here", "_law_lot", "_law_odd", "_law_thing"]
theorem scLaw : FnScope lawN ["_law_script"] (defScope sLaw) := ⟨rfl, rfl, rfl, by decide +kernel, rfl, by decide +kernel, by decide +kernel⟩
theorem ok_law {f : Addr} {fd : FuncData} (F : L2.Fun K "law" "law" sLaw f fd) (T : Gb mg)
    (cB : Cal P w K mg base 1 "_law_bag" (spBag K) []) (cP : Cal P w K mg base 1 "_law_pick" spPick []) (cS : Cal P w K mg base 2 "_law_some" spSome []) (cL : Cal P w K mg base 4 "_law_lists" spLists []) (cDe : Cal P w K mg base 3 "_law_deep" (spDeep K) [])
    (cDr : Cal P w K mg base 3 "_law_drawn" spDrawn []) (cBe : Cal P w K mg base 3 "_law_bent" (spBent K) []) (cLo : Cal P w K mg base 1 "_law_lots" spLots []) (cF : Cal P w K mg base 1 "_law_is_flag" spFlag [])
    (cIP : Cal P w K mg base 6 "is_pairing" (spPairing K) []) (cIB : Cal P w K mg base 6 "is_ban" (spBan K) []) (cLP : Cal P w K mg base 2 "_law_is_pairing" (spPairing K) []) (cLB : Cal P w K mg base 2 "_law_is_ban" (spBan K) []) : FnOk P w K mg base CX0 7 f fd ["_law_script"] (spLaw K) := by
  refine F.ok scLaw (fun vs H Q E h => ?_) (fun cdv A outer s H vs Q E hr h => ?_)
  · obtain ⟨a, ns, rfl, _⟩ := h
    rfl
  · obtain ⟨s0, ns, rfl, hS, hlen, kQ⟩ := h
    refine ⟨_, pss_cons (ps_set (i := 1) scLaw.nd rfl (Or.inl rfl) (C8.pe_c cB hr (by decide) (by rfl) (pa_cons (pv 0) pa_nil)))
      (C8.pss_cut (ps_asg (C8.pe_c cL hr (by decide) (by rfl) (pa_cons (pv 1) (pa_cons (C8.pe_c cS hr (by decide) (by rfl) (pa_cons (pv 1) (pa_cons (pe_lst (pa_cons pe_int (pa_cons pe_int pa_nil))) pa_nil))) (pa_cons (pe_ifExp (pt_cmpR op_eq (C8.pe_c cP hr (by decide) (by rfl) (pa_cons (pv 1) (pa_cons pe_int pa_nil))) pe_int (nomark _)) pe_int pe_int) pa_nil)))) (pg_tup rfl (pgs_cons (pg_name (i := 2) scLaw.nd rfl (Or.inl rfl)) (pgs_cons (pg_name (i := 3) scLaw.nd rfl (Or.inl rfl)) pgs_nil))))
      (pss_cons (ps_set (i := 4) scLaw.nd rfl (Or.inl rfl) (C8.pe_c cP hr (by decide) (by rfl) (pa_cons (pv 1) (pa_cons pe_int pa_nil))))
      (C8.pss_cut (ps_set (i := 5) scLaw.nd rfl (Or.inl rfl) (pe_lst (pa_cons (pe_tup pa_nil) (pa_cons pe_non (pa_cons pe_int (pa_cons pe_str (pa_cons (pe_lst pa_nil) (pa_cons pe_dnewK (pa_cons (pe_disp (pps_cons pe_int pe_int pps_nil) rfl rfl (fun z => nomatch z) (by decide)) (pa_cons (pe_tup (pa_cons pe_non pa_nil)) (pa_cons (pe_tup (pa_cons (pe_tup pa_nil) pa_nil)) (pa_cons (pe_tup (pa_cons (pe_tup (pa_cons pe_int pa_nil)) pa_nil)) (pa_cons (pe_tup (pa_cons pe_int (pa_cons pe_int pa_nil))) (pa_cons (pe_tup (pa_cons (pe_tup (pa_cons pe_int (pa_cons pe_int pa_nil))) pa_nil)) (pa_cons (pe_tup (pa_cons (pe_tup (pa_cons pe_bl (pa_cons pe_bl pa_nil))) pa_nil)) (pa_cons (pe_tup (pa_cons (pe_tup (pa_cons pe_int (pa_cons pe_int pa_nil))) (pa_cons (pe_tup (pa_cons pe_int (pa_cons pe_int pa_nil))) pa_nil))) (pa_cons (C8.pe_c cDe hr (by decide) (by rfl) (pa_cons (pv 1) pa_nil)) pa_nil)))))))))))))))))
      (C8.pss_cut (ps_for PassesOwn.never rfl (pi_range1 (by rfl) T.rng (pa_cons pe_int pa_nil)) (pg_name (i := 6) scLaw.nd rfl (Or.inl rfl))
      (pss_cons (ps_set (i := 7) scLaw.nd rfl (Or.inl rfl) (C8.pe_c cDr hr (by decide) (by rfl) (pa_cons (pv 1) (pa_cons (pv 2) (pa_cons (pv 3) (pa_cons (pv 4) pa_nil))))))
      (pss_one (ps_set (i := 5) scLaw.nd rfl (Or.inl rfl) (pe_op op_cat (pv 5) (pe_lst (pa_cons (pe_callTy call_tuple_of (by rfl) T.tup (by decide +kernel) (pa_cons (pv 7) pa_nil)) (pa_cons (C8.pe_c cBe hr (by decide) (by rfl) (pa_cons (pv 1) (pa_cons (pv 7) (pa_cons (pe_callB call_len_seq (by rfl) T.len PySem.boot_len (pa_cons (pv 2) pa_nil)) (pa_cons (pe_callB call_len_seq (by rfl) T.len PySem.boot_len (pa_cons (pv 3) pa_nil)) pa_nil))))) pa_nil))))))))
      (C8.pss_cut (ps_for PassesOwn.never rfl (pi_tup (pe_tup (pa_cons pe_int (pa_cons pe_int pa_nil)))) (pg_name (i := 8) scLaw.nd rfl (Or.inr rfl))
      (pss_cons (ps_set (i := 9) scLaw.nd rfl (Or.inl rfl) (pe_ifExp (pt_cmpR op_eq (pv 8) pe_int (nomark _)) (pv 2) (pv 3)))
      (pss_cons (ps_set (i := 5) scLaw.nd rfl (Or.inl rfl) (pe_op op_cat (pv 5) (pe_lc (own := [("_law_lot", 10)]) (g := gName 10) (tt := tYes) rfl scLaw.nd (pi_list (C8.pe_c cLo hr (by decide) (by rfl) (pa_cons (pe_callB call_len_seq (by rfl) T.len PySem.boot_len (pa_cons (pv 9) pa_nil)) pa_nil))) (blkOk_by (N := lawN) (sc := defScope sLaw) (by decide +kernel)) (fun _ _ _ _ _ => (pg_name (i := 10) scLaw.nd rfl (Or.inl rfl))) (fun _ _ _ _ _ => pts_nil) (fun _ _ _ _ _ => (pe_tup (pa_cons (pv 8) (pa_cons (pv 10) pa_nil)))))))
      (pss_cons (ps_set (i := 10) scLaw.nd rfl (Or.inl rfl) (pe_tupRg rfl (by rfl) T.tup (prg_1 (by rfl) T.rng (pe_callB call_len_seq (by rfl) T.len PySem.boot_len (pa_cons (pv 9) pa_nil)))))
      (pss_cons (ps_set (i := 11) scLaw.nd rfl (Or.inl rfl) (pe_lst (pa_cons (pe_callTy call_list_of (by rfl) T.list (by decide +kernel) (pa_cons (pv 10) pa_nil)) (pa_cons (pe_back (pv 10)) (pa_cons (pe_op op_catA (pv 10) (pe_tup (pa_cons (pe_callB call_len_seq (by rfl) T.len PySem.boot_len (pa_cons (pv 9) pa_nil)) pa_nil))) (pa_cons (pe_op op_catA (pv 10) (pe_slice sl_tupA (pv 10) (po_some (pe_un un_neg pe_int)) po_none)) (pa_cons pe_non (pa_cons (pe_tup (pa_cons (pe_un un_neg pe_int) pa_nil)) (pa_cons (pe_tup (pa_cons pe_bl pa_nil)) (pa_cons (pe_tup (pa_cons pe_non pa_nil)) (pa_cons (pe_tup (pa_cons (pe_tup (pa_cons pe_int pa_nil)) pa_nil)) pa_nil)))))))))))
      (pss_one (ps_set (i := 5) scLaw.nd rfl (Or.inl rfl) (pe_op op_cat (pv 5) (pe_lc (own := [("_law_thing", 12)]) (g := gName 12) (tt := tYes) rfl scLaw.nd (pi_list (pv 11)) (blkOk_by (N := lawN) (sc := defScope sLaw) (by decide +kernel)) (fun _ _ _ _ _ => (pg_name (i := 12) scLaw.nd rfl (Or.inl rfl))) (fun _ _ _ _ _ => pts_nil) (fun _ _ _ _ _ => (pe_tup (pa_cons (pv 8) (pa_cons (pv 12) pa_nil)))))))))))))
      (pss_cons (ps_set (i := 5) scLaw.nd rfl (Or.inl rfl) (pe_op op_cat (pv 5) (pe_lst (pa_cons (pe_tup (pa_cons pe_bl (pa_cons (pe_tup (pa_cons pe_int pa_nil)) pa_nil))) (pa_cons (pe_tup (pa_cons pe_int (pa_cons (pe_tup (pa_cons pe_int pa_nil)) pa_nil))) (pa_cons (pe_tup (pa_cons (pe_un un_neg pe_int) (pa_cons (pe_tup (pa_cons pe_int pa_nil)) pa_nil))) (pa_cons (pe_tup (pa_cons pe_non (pa_cons (pe_tup (pa_cons pe_int pa_nil)) pa_nil))) (pa_cons (pe_lst (pa_cons pe_int (pa_cons (pe_tup (pa_cons pe_int pa_nil)) pa_nil))) (pa_cons (pe_tup (pa_cons pe_int (pa_cons (pe_tup (pa_cons pe_int pa_nil)) (pa_cons (pe_tup pa_nil) pa_nil)))) (pa_cons (pe_tup (pa_cons pe_int pa_nil)) (pa_cons (pe_tup (pa_cons pe_str (pa_cons (pe_tup (pa_cons pe_int pa_nil)) pa_nil))) (pa_cons (pe_tup (pa_cons pe_bl (pa_cons (pe_tup (pa_cons pe_int (pa_cons pe_int pa_nil))) pa_nil))) pa_nil))))))))))))
      (pss_cons (ps_for PassesOwn.never rfl (pi_list (pv 5)) (pg_name (i := 12) scLaw.nd rfl (Or.inl rfl))
      (pss_cons (ps_if (pt_not (pt_val (C8.pe_c cF hr (by decide) (by rfl) (pa_cons (C8.pe_c cIP hr (by decide) (by rfl) (pa_cons (pv 2) (pa_cons (pv 3) (pa_cons (pv 4) (pa_cons (pv 12) pa_nil))))) (pa_cons (C8.pe_c cLP hr (by decide) (by rfl) (pa_cons (pv 2) (pa_cons (pv 3) (pa_cons (pv 4) (pa_cons (pv 12) pa_nil))))) pa_nil))))) (pss_one (ps_ret pe_bl)) pss_nil)
      (pss_one (ps_if (pt_not (pt_val (C8.pe_c cF hr (by decide) (by rfl) (pa_cons (C8.pe_c cIB hr (by decide) (by rfl) (pa_cons (pv 2) (pa_cons (pv 3) (pa_cons (pv 4) (pa_cons (pv 12) pa_nil))))) (pa_cons (C8.pe_c cLB hr (by decide) (by rfl) (pa_cons (pv 2) (pa_cons (pv 3) (pa_cons (pv 4) (pa_cons (pv 12) pa_nil))))) pa_nil))))) (pss_one (ps_ret pe_bl)) pss_nil))))
      (pss_one (ps_ret pe_bl))))))))), ?_⟩
    refine ⟨_, rfl, s0, ns, rfl, hS, hlen, fun r c H1 ex1 bag => ?_⟩
    refine ⟨fun σ' H' => ∃ (o1 o2 : Addr) (L M : List Bar), σ' = [some (.ref s0), some (.ref r), some (.ref o1), some (.ref o2), Option.none, Option.none, Option.none, Option.none, Option.none, Option.none, Option.none, Option.none, Option.none] ∧ LawH r c o1 o2 L M H' ∧ Right L ∧ Right M ∧ L.length ≤ 10 ∧ M.length ≤ 10, ?_, ?_⟩
    · refine ⟨_, rfl, _, rfl, by show 2 ≤ sizeLine; decide, fun l nl => ?_⟩
      have gl := Go.new (o := .lst [V.int 4, .int 8]) bag nl
      obtain ⟨n1, n2⟩ := bag.ne nl
      refine ⟨r, c, l, _, rfl, gl.1, n1, n2, upd_same, (fun z => nomatch z), by show 2 ≤ 1000; decide, fun x H2 hx g2 => ?_⟩
      have hw : ∃ w : Int, x = .int w ∧ 1 ≤ w ∧ w ≤ 1000 := by
        simp only [List.mem_cons, List.not_mem_nil, or_false] at hx
        rcases hx with rfl | rfl
        · exact ⟨4, rfl, by decide, by decide⟩
        · exact ⟨8, rfl, by decide, by decide⟩
      obtain ⟨w, rfl, w1, w2⟩ := hw
      refine ⟨_, rfl, r, c, 6, rfl, g2.1, by decide, by decide, fun k H3 k0 k6 g3 => ⟨rfl, _, rfl, ?_⟩⟩
      refine ite2 (fun _ => ?_) (fun _ => ?_)
      · refine ⟨r, c, w, 10, rfl, g3.1, w1, w2, by decide, fun t o1 o2 L M H4 g4 ht b1 b2 lL lM oL oM => ?_⟩
        exact ⟨t, _, rfl, SqT.of ht, rfl, _, _, rfl, _, _, rfl, rfl, o1, o2, L, M, rfl, ⟨g4.1, b1, b2⟩, ⟨by omega, oL⟩, ⟨by omega, oM⟩, by omega, by omega⟩
      · refine ⟨r, c, w, 4, rfl, g3.1, w1, w2, by decide, fun t o1 o2 L M H4 g4 ht b1 b2 lL lM oL oM => ?_⟩
        exact ⟨t, _, rfl, SqT.of ht, rfl, _, _, rfl, _, _, rfl, rfl, o1, o2, L, M, rfl, ⟨g4.1, b1, b2⟩, ⟨by omega, oL⟩, ⟨by omega, oM⟩, by omega, by omega⟩
    rintro σ' H2 ⟨o1, o2, L, M, rfl, lh, rL, rM, lL, lM⟩
    refine ⟨_, rfl, r, c, 5, rfl, lh.bag, by decide, by decide, fun e H3 e0 e5 g3 => ?_⟩
    replace lh := lh.go g3
    have st : StG r c (LawH r c o1 o2 L M) := st_law
    refine ⟨fun σ' H' => ∃ (q : Addr), σ' = [some (.ref s0), some (.ref r), some (.ref o1), some (.ref o2), some (.int e), some (.ref q), Option.none, Option.none, Option.none, Option.none, Option.none, Option.none, Option.none] ∧ LawH r c o1 o2 L M H' ∧ Ths K (Off r c H') q 15, ?_, ?_⟩
    · exact mk_ths (K := K) (I := LawH r c o1 o2 L M) (mk_cons st (mk_tup mk_nil (by decide)) (mk_cons st mk_non (mk_cons st mk_int (mk_cons st mk_str (mk_cons st (mk_lst mk_nil (by decide)) (mk_cons st mk_dnew (mk_cons st mk_disp1 (mk_cons st (mk_tup (mk_cons st mk_non mk_nil) (by decide)) (mk_cons st (mk_tup (mk_cons st (mk_tup mk_nil (by decide)) mk_nil) (by decide)) (mk_cons st (mk_tup (mk_cons st (mk_tup (mk_cons st mk_int mk_nil) (by decide)) mk_nil) (by decide)) (mk_cons st (mk_tup (mk_cons st mk_int (mk_cons st mk_int mk_nil)) (by decide)) (mk_cons st (mk_tup (mk_cons st (mk_tup (mk_cons st mk_int (mk_cons st mk_int mk_nil)) (by decide)) mk_nil) (by decide)) (mk_cons st (mk_tup (mk_cons st (mk_tup (mk_cons st mk_bl (mk_cons st mk_bl mk_nil)) (by decide)) mk_nil) (by decide)) (mk_cons st (mk_tup (mk_cons st (mk_tup (mk_cons st mk_int (mk_cons st mk_int mk_nil)) (by decide)) (mk_cons st (mk_tup (mk_cons st mk_int (mk_cons st mk_int mk_nil)) (by decide)) mk_nil)) (by decide)) (mk_cons st (fun H Q b i k => ⟨_, rfl, r, c, rfl, b, fun x H5 g a => k x H5 g a⟩) mk_nil))))))))))))))) (by decide) lh.bag lh fun l H4 g4 th => ⟨l, rfl, lh.go g4, th⟩
    clear g3 ex1 bag lh
    rintro σ' H4 ⟨q, rfl, lh, th⟩
    -- pairs drawn and bent
    refine ⟨fun σ' H' => ∃ (q : Addr) (v6 v7 : Option V), σ' = [some (.ref s0), some (.ref r), some (.ref o1), some (.ref o2), some (.int e), some (.ref q), v6, v7, Option.none, Option.none, Option.none, Option.none, Option.none] ∧ LawH r c o1 o2 L M H' ∧ Ths K (Off r c H') q 27, ?_, ?_⟩
    · refine ⟨6, rfl, by decide, by decide, for_range (lo := 0) (n := 6) (fun i σ' H' => ∃ (q : Addr) (v6 v7 : Option V), σ' = [some (.ref s0), some (.ref r), some (.ref o1), some (.ref o2), some (.int e), some (.ref q), v6, v7, Option.none, Option.none, Option.none, Option.none, Option.none] ∧ LawH r c o1 o2 L M H' ∧ Ths K (Off r c H') q (15 + 2 * i)) ⟨q, _, _, rfl, lh, th⟩ ?_ ?_⟩
      · rintro i σ' H5 hi ⟨q, v6, v7, rfl, lh, th⟩
        refine ⟨_, rfl, _, rfl, _, rfl, _, rfl, r, c, o1, o2, L, M, e, rfl, lh.bag, lh.b1, lh.b2, by omega, by omega, fun l H6 g6 lp => ?_⟩
        replace lh := lh.go g6
        replace th := th.ext g6.off
        refine ⟨_, rfl, mk_ths (K := K) (I := fun S => LawH r c o1 o2 L M S ∧ LP (Off r c S) l) (n := 2) (mk_cons ?_ (fun H Q b i k => ?_) (mk_cons ?_ (fun H Q b i k => ?_) mk_nil)) (by decide) lh.bag ⟨lh, lp⟩ fun l2 H7 g7 th7 => ?_⟩
        · exact fun _ _ _ g h => ⟨h.1.go g, h.2.ext g.off⟩
        · obtain ⟨xs, hx, lx, px⟩ := i.2
          refine ⟨_, rfl, l, xs, rfl, .inl ⟨SqL.of (off_le _ _ hx), fun p np => ?_⟩⟩
          have gp := Go.new (o := .tup xs) b np
          exact k _ _ gp (AnyD.tup (off_tup gp.1 upd_same) (by omega) fun y hy => ((px y hy).mono (TExt.of gp.off)).any)
        · exact fun _ _ _ g h => ⟨h.1.go g, h.2.ext g.off⟩
        · obtain ⟨xs, hx, lx⟩ := i.1.b1.lst
          obtain ⟨zs, hz, lz⟩ := i.1.b2.lst
          exact ⟨_, rfl, _, rfl, ⟨_, rfl, o1, xs, rfl, .inl (SqL.of (off_le _ _ hx)), ⟨_, rfl, o2, zs, rfl, .inl (SqL.of (off_le _ _ hz)), r, c, l, L.length, M.length, by rw [← lx, ← lz]; rfl, b, i.2, by omega, by omega, fun x H' g a => k x H' g a⟩⟩⟩
        · refine cat_ths g7.1 (th.ext g7.off) th7 (by omega) fun p H8 g8 th8 => ?_
          exact ⟨p, _, _, rfl, (lh.go g7).go g8, th8.le (by omega)⟩
      · rintro σ' H5 ⟨q, v6, v7, rfl, lh, th⟩
        exact ⟨q, _, _, rfl, lh, th.le (by decide)⟩
    clear lh th
    rintro σ' H5 ⟨q, v6, v7, rfl, lh, th⟩
    -- the sides
    refine ⟨fun σ' H' => ∃ (q : Addr) (v8 v9 v10 v11 : Option V), σ' = [some (.ref s0), some (.ref r), some (.ref o1), some (.ref o2), some (.int e), some (.ref q), v6, v7, v8, v9, v10, v11, Option.none] ∧ LawH r c o1 o2 L M H' ∧ Ths K (Off r c H') q 3000, ?_, ?_⟩
    · refine ⟨by show 2 ≤ sizeLine; decide, fun p np => ⟨p, rfl, ⟨_, SqT.of upd_same⟩, ?_⟩⟩
      have gp := Go.new (o := .tup [V.int 0, .int 1]) lh.bag np
      have hp : (upd H5 p (.tup [V.int 0, .int 1])) p = some (.tup [V.int 0, .int 1]) := upd_same
      replace lh := lh.go gp
      replace th := th.ext gp.off
      generalize upd H5 p (.tup [V.int 0, .int 1]) = H6 at *
      refine for_it walk_tup (fun i σ' H' => ∃ (q : Addr) (v8 v9 v10 v11 : Option V), σ' = [some (.ref s0), some (.ref r), some (.ref o1), some (.ref o2), some (.int e), some (.ref q), v6, v7, v8, v9, v10, v11, Option.none] ∧ Go r c H6 H' ∧ Ths K (Off r c H') q (27 + i * 1033)) ⟨q, _, _, _, _, rfl, Go.refl lh.bag, th.le (by omega)⟩ (fun i σ' H' _ ⟨_, _, _, _, _, _, g, _⟩ => SqT.of (g.tup lh.bag hp)) ?_ ?_
      · rintro i z σ' H7 H7' hi ⟨q, v8, v9, v10, v11, rfl, g7, th7⟩ ⟨rfl, hy⟩
        have hs : ∃ s : Int, z = .int s := by
          have := List.mem_of_getElem? hy
          simp only [List.mem_cons, List.not_mem_nil, or_false] at this
          rcases this with rfl | rfl
          · exact ⟨_, rfl⟩
          · exact ⟨_, rfl⟩
        obtain ⟨s, rfl⟩ := hs
        have i2 : i < 2 := hi
        have lh7 := lh.go g7
        refine if_two rfl rfl rfl fun z hz => ?_
        have hB : ∃ o B, z = .ref o ∧ BL (Off r c H7') o B ∧ B.length ≤ 10 := by
          rcases hz with rfl | rfl
          · exact ⟨o1, L, rfl, lh7.b1, lL⟩
          · exact ⟨o2, M, rfl, lh7.b2, lM⟩
        obtain ⟨o, B, rfl, hB, lB⟩ := hB
        obtain ⟨xs, hx, lx⟩ := hB.lst
        refine ⟨_, rfl, ⟨_, rfl, o, xs, rfl, .inl (SqL.of (off_le _ _ hx)), B.length, by rw [← lx]; rfl, lB, fun l as ll H8 e8 hl pt len l4 => ⟨l, rfl, ⟨_, SqL.of hl⟩, fun D nD => ?_⟩⟩⟩
        have g8 := Go.of_ext g7.1 e8
        have la : as.length = ll.length := Paired.length pt
        refine lc_big (n := (as.map V.ref).length) (p := fun _ => true) walk_list nD (by rw [List.length_map]; omega) (fun i y S => ∃ (t u : Addr) (ns : List Int), y = V.ref t ∧ S t = some (.tup [.int s, .ref u]) ∧ S u = some (.tup (ns.map V.int)) ∧ ns.length ≤ 4) (fun _ _ _ _ t z => let ⟨a, b, ns, h1, h2, h3, h4⟩ := z; ⟨a, b, ns, h1, t _ _ h2, t _ _ h3, h4⟩) (fun H' e => SqL.of (e _ _ hl)) ?_ ?_
        · rintro j y J J' R N hj e7 ⟨rfl, hy⟩ hR hN
          obtain ⟨a, ha, rfl⟩ := ref_get hy
          obtain ⟨lot, hlot, hal⟩ := PT2.get pt ha
          refine ⟨rfl, tyes_in ⟨_, rfl, _, rfl, by show 2 ≤ sizeLine; decide, fun t nt => ?_⟩⟩
          exact hR rfl _ _ (Ext.upd nt) ⟨t, a, lot, rfl, upd_same, Ext.upd nt _ _ (e7 _ _ hal), l4 _ (List.mem_of_getElem? hlot)⟩
        intro ys H9 e9 hD pp
        have g9 := (g8.trans (Go.of_ext g8.1 e9))
        have lys : ys.length ≤ 1024 := by
          rw [← Paired.length pp]
          exact Nat.le_trans (List.length_filter_le _ _) (by rw [List.length_range, List.length_map]; omega)
        have nDD := g8.1.ne nD
        have ths9 : Ths K (Off r c H9) D 1024 := ⟨ys, off_at nDD hD, lys, sided g9.1 (s := s) (Paired.imp' (fun _ _ ⟨t, u, ns, h1, h2, h3, h4⟩ => ⟨t, _, h1, h2, _, TD.ints (off_tup g9.1 h3) (by omega)⟩) pp)⟩
        refine cat_ths g9.1 (th7.ext g9.off) ths9 (by omega) fun q2 H10 g10 th10 => ?_
        have g710 := (g7.trans g9).trans g10
        have hB10 := (hB.ext g9.off).ext g10.off
        obtain ⟨xs, hx, lx⟩ := hB10.lst
        refine ⟨_, rfl, o, xs, rfl, .inl (SqL.of (off_le _ _ hx)), _, rfl, RgOk.of_le (by decide) (by omega) (by decide) (by omega), fun t nt => ?_⟩
        rw [lx]
        obtain ⟨ns, en, ln⟩ := rg_ints B.length
        rw [en]
        have gt := Go.new (o := .tup (ns.map V.int)) g10.1 nt
        have ht : (upd H10 t (.tup (ns.map V.int))) t = some (.tup (ns.map V.int)) := upd_same
        replace th10 := th10.ext gt.off
        replace hB10 := hB10.ext gt.off
        have g711 := g710.trans gt
        clear hx en
        generalize upd H10 t (.tup (ns.map V.int)) = H11 at *
        have st2 : StG r c (fun S => S t = some (.tup (ns.map V.int)) ∧ BL (Off r c S) o B) := fun _ _ b g h => ⟨g.tup b h.1, h.2.ext g.off⟩
        unfold gName
        dsimp only [tSeq, tAsg]
        refine mk_ths (K := K) (I := fun S => S t = some (.tup (ns.map V.int)) ∧ BL (Off r c S) o B) (n := 9) (mk_cons st2 (fun H Q b i k => ?_) (mk_cons st2 (fun H Q b i k => ?_) (mk_cons st2 (fun H Q b i k => ?_) (mk_cons st2 (fun H Q b i k => ?_) (mk_cons st2 mk_non (mk_cons st2 (mk_tup (mk_cons st2 mk_neg mk_nil) (by decide)) (mk_cons st2 (mk_tup (mk_cons st2 mk_bl mk_nil) (by decide)) (mk_cons st2 (mk_tup (mk_cons st2 mk_non mk_nil) (by decide)) (mk_cons st2 (mk_tup (mk_cons st2 (mk_tup (mk_cons st2 mk_int mk_nil) (by decide)) mk_nil) (by decide)) mk_nil))))))))) (by decide) g711.1 ⟨ht, hB10⟩ fun l2 H12 g12 th12 => ?_
        · refine ⟨_, rfl, t, _, rfl, .inr (SqT.of i.1), fun p np => ?_⟩
          exact k _ _ (Go.new b np) ⟨_, TD.lst (off_at (b.ne np) upd_same)⟩
        · refine ⟨_, rfl, t, _, rfl, i.1, by rw [List.length_map]; omega, fun p np => ?_⟩
          have gp := Go.new (o := .tup (ns.map V.int).reverse) b np
          refine k _ _ gp ⟨_, TD.ints (ns := ns.reverse) (off_tup gp.1 (by rw [List.map_reverse]; exact upd_same)) (by rw [List.length_reverse]; omega)⟩
        · obtain ⟨zs, hz, lz⟩ := i.2.lst
          refine ⟨_, rfl, ⟨_, rfl, o, zs, rfl, .inl (SqL.of (off_le _ _ hz)), by show 1 ≤ sizeLine; decide, fun p np => ?_⟩⟩
          have xp := Ext.upd (o := .tup [V.int (zs.length : Nat)]) np
          refine cat_any (xp _ _ i.1) upd_same (by rw [List.length_map]; show ns.length + 1 ≤ 1000; omega) fun p2 J2 x2 hp2 => ?_
          have g2 := Go.of_ext b (xp.trans x2)
          exact k _ _ g2 ⟨_, TD.ints (ns := ns ++ [((zs.length : Nat) : Int)]) (off_tup g2.1 (by rw [List.map_append]; exact hp2)) (by rw [List.length_append]; show ns.length + 1 ≤ 1000; omega)⟩
        · refine ⟨_, rfl, _, rfl, 1, rfl, -1, rfl, ?_⟩
          dsimp only [tNoPart]
          refine sl_any i.1 fun p J x hp => ?_
          obtain ⟨ms, em, lm⟩ := cut_ints ns (some (-1)) Option.none
          rw [em] at hp
          refine cat_any (x _ _ i.1) hp (by rw [List.length_map, List.length_map]; omega) fun p2 J2 x2 hp2 => ?_
          have g2 := Go.of_ext b (x.trans x2)
          exact k _ _ g2 ⟨_, TD.ints (ns := ns ++ ms) (off_tup g2.1 (by rw [List.map_append]; exact hp2)) (by rw [List.length_append]; omega)⟩
        · obtain ⟨zs, hz, lz, az⟩ := th12
          refine ⟨_, rfl, ⟨_, rfl, l2, rfl, ⟨_, SqL.of (off_le _ _ hz)⟩, fun D2 nD2 => ?_⟩⟩
          have g712 := g711.trans g12
          refine lc_gen (g := gName 12) (n := zs.length) (p := fun _ => true) walk_list nD2 (by omega) (fun i y S => ∃ (t : Addr) (x : V), y = V.ref t ∧ S t = some (.tup [.int s, x]) ∧ zs[i]? = some x) (fun _ _ _ _ t z => let ⟨a, b, h1, h2, h3⟩ := z; ⟨a, b, h1, t _ _ h2, h3⟩) (fun H' e => SqL.of (e _ _ (off_le _ _ hz))) ?_ ?_
          · rintro j y J J' R N hj e7 ⟨rfl, hy⟩ hR hN
            refine ⟨rfl, tyes_in ⟨_, rfl, _, rfl, by show 2 ≤ sizeLine; decide, fun t nt => ?_⟩⟩
            exact hR rfl _ _ (Ext.upd nt) ⟨t, y, rfl, upd_same, hy⟩
          intro ys H13 e13 hD2 pp
          have g13 := Go.of_ext g12.1 e13
          have ths13 : Ths K (Off r c H13) D2 9 := ⟨ys, off_at (g12.1.ne nD2) hD2, by
            rw [← Paired.length pp]
            exact Nat.le_trans (List.length_filter_le _ _) (by rw [List.length_range]; exact lz), sided g13.1 (s := s) (Paired.imp' (fun _ _ ⟨t, x, h1, h2, h3⟩ => ⟨t, x, h1, h2, (az x (List.mem_of_getElem? h3)).ext g13.off⟩) pp)⟩
          refine cat_ths g13.1 ((th10.ext g12.off).ext g13.off) ths13 (by omega) fun q3 H14 g14 th14 => ?_
          exact ⟨q3, _, _, _, _, rfl, (g712.trans g13).trans g14, th14.le (by omega)⟩
      · rintro σ' H7 ⟨q, v8, v9, v10, v11, rfl, g, th⟩
        exact ⟨q, _, _, _, _, rfl, lh.go g, th.le (by decide)⟩
    clear lh th
    rintro σ' H7 ⟨q, v8, v9, v10, v11, rfl, lh, th⟩
    refine ⟨_, rfl, mk_ths (K := K) (I := LawH r c o1 o2 L M) (mk_cons st (mk_tup (mk_cons st mk_bl (mk_cons st (mk_tup (mk_cons st mk_int mk_nil) (by decide)) mk_nil)) (by decide)) (mk_cons st (mk_tup (mk_cons st mk_int (mk_cons st (mk_tup (mk_cons st mk_int mk_nil) (by decide)) mk_nil)) (by decide)) (mk_cons st (mk_tup (mk_cons st mk_neg (mk_cons st (mk_tup (mk_cons st mk_int mk_nil) (by decide)) mk_nil)) (by decide)) (mk_cons st (mk_tup (mk_cons st mk_non (mk_cons st (mk_tup (mk_cons st mk_int mk_nil) (by decide)) mk_nil)) (by decide)) (mk_cons st (mk_lst (mk_cons st mk_int (mk_cons st (mk_tup (mk_cons st mk_int mk_nil) (by decide)) mk_nil)) (by decide)) (mk_cons st (mk_tup (mk_cons st mk_int (mk_cons st (mk_tup (mk_cons st mk_int mk_nil) (by decide)) (mk_cons st (mk_tup mk_nil (by decide)) mk_nil))) (by decide)) (mk_cons st (mk_tup (mk_cons st mk_int mk_nil) (by decide)) (mk_cons st (mk_tup (mk_cons st mk_str (mk_cons st (mk_tup (mk_cons st mk_int mk_nil) (by decide)) mk_nil)) (by decide)) (mk_cons st (mk_tup (mk_cons st mk_bl (mk_cons st (mk_tup (mk_cons st mk_int (mk_cons st mk_int mk_nil)) (by decide)) mk_nil)) (by decide)) mk_nil))))))))) (by decide) lh.bag lh fun l2 H8 g8 th8 => cat_ths g8.1 (th.ext g8.off) th8 (by decide) fun q2 H9 g9 th9 => ?_⟩
    replace lh := (lh.go g8).go g9
    clear th th8 g8 g9
    obtain ⟨xs, hx, lx, ax⟩ := th9
    obtain ⟨nq1, nq2, hx'⟩ := off_some hx
    refine ⟨_, rfl, q2, rfl, ⟨_, SqL.of hx'⟩, ?_⟩
    refine for_it walk_list (fun i σ' H' => ∃ v12 : Option V, σ' = [some (.ref s0), some (.ref r), some (.ref o1), some (.ref o2), some (.int e), some (.ref q2), v6, v7, v8, v9, v10, v11, v12] ∧ Go r c H9 H') ⟨_, rfl, Go.refl lh.bag⟩ (fun i σ' H' _ ⟨_, _, g⟩ => SqL.of (g.2 _ _ nq1 nq2 hx')) ?_ ?_
    · rintro i x σ' H10 H10' hi ⟨v12, rfl, g10⟩ ⟨rfl, hy⟩
      obtain ⟨d, td⟩ := (ax x (List.mem_of_getElem? hy)).ext g10.off
      have lh10 := lh.go g10
      have td1 : TD K H10' x d := td.ext off_le
      have bl1 := lh10.b1.ext off_le
      have bl2 := lh10.b2.ext off_le
      refine ⟨_, rfl, _, rfl, _, rfl, _, rfl, o1, o2, L, M, e, x, d, rfl, bl1, bl2, rL, rM, e0, by omega, td1, fun f1 J1 hf1 x1 => ?_⟩
      refine ⟨_, rfl, _, rfl, _, rfl, _, rfl, o1, o2, L, M, e, x, d, rfl, bl1.ext x1, bl2.ext x1, rL, rM, e0, by omega, td1.ext x1, fun f2 J2 hf2 x2 => ?_⟩
      have ef : f1 = f2 := Bool.eq_iff_iff.mpr (hf1.trans hf2.symm)
      refine ⟨f1, f2, rfl, ?_⟩
      rw [decide_eq_true ef]
      refine ⟨_, rfl, ?_⟩
      refine ite2 (fun z => nomatch z) (fun _ => ?_)
      refine ⟨_, rfl, _, rfl, _, rfl, _, rfl, o1, o2, L, M, e, x, d, rfl, (bl1.ext x1).ext x2, (bl2.ext x1).ext x2, rL, rM, e0, by omega, (td1.ext x1).ext x2, fun f3 J3 hf3 x3 => ?_⟩
      refine ⟨_, rfl, _, rfl, _, rfl, _, rfl, o1, o2, L, M, e, x, d, rfl, ((bl1.ext x1).ext x2).ext x3, ((bl2.ext x1).ext x2).ext x3, rL, rM, e0, by omega, ((td1.ext x1).ext x2).ext x3, fun f4 J4 hf4 x4 => ?_⟩
      have ef : f3 = f4 := Bool.eq_iff_iff.mpr (hf3.trans hf4.symm)
      refine ⟨f3, f4, rfl, ?_⟩
      rw [decide_eq_true ef]
      refine ⟨_, rfl, ?_⟩
      refine ite2 (fun z => nomatch z) (fun _ => ?_)
      exact ⟨_, rfl, g10.trans (Go.of_ext g10.1 (((x1.trans x2).trans x3).trans x4))⟩
    · rintro σ' H10 ⟨v12, rfl, g10⟩
      exact kQ _
end
end B46

set_option Elab.async false
set_option linter.all false
set_option maxRecDepth 100000
set_option maxHeartbeats 8000000
namespace B46
open PySem L2
theorem exm_self {K : PySem.W.Frag} {S : Addr} (h1 : PySem.W.subIn K (.ref S) (.type "BaseException") = some true) (h2 : PySem.W.isClsIn K S = true) (h3 : PySem.W.typeIn K (.ref S) = some (.type "type")) (h4 : PySem.W.subIn K (.ref S) (.ref S) = some true) :
    PySem.W.exmOne K (.ref S) (.ref S) = some true := by
  have h2' : (PySem.W.clsIn K S).isSome = true := h2
  unfold PySem.W.exmOne PySem.W.kitCls
  simp only [h1, h2', h3, h4, beq_self_eq_true, Bool.and_self, if_true]
theorem kit_ref {K : PySem.W.Frag} {t : Value} {C : Addr} {b : Bool} (h2 : PySem.W.isClsIn K C = true) (h3 : PySem.W.typeIn K (.ref C) = some (.type "type")) (h4 : PySem.W.subIn K (.ref C) (.ref C) = some true) (h5 : PySem.W.subIn K t (.ref C) = some b) :
    PySem.W.kitOne K t (.ref C) = some b := by
  have h2' : (PySem.W.clsIn K C).isSome = true := h2
  unfold PySem.W.kitOne PySem.W.kitCls
  by_cases e : (t == .ref C) = true
  · have e' := beq_iff_eq.mp e
    subst e'
    rw [h4] at h5
    rw [if_pos e, ← h5]
  · rw [if_neg e]
    simp only [h2', h3, h5, beq_self_eq_true, Bool.and_self, if_true]
theorem kit_tyc {K : PySem.W.Frag} {C : Addr} {s : String} {b : Bool} (h : PySem.W.kitMeta s = true) (h5 : PySem.W.subIn K (.ref C) (.type s) = some b) : PySem.W.kitOne K (.ref C) (.type s) = some b := by
  unfold PySem.W.kitOne PySem.W.kitCls
  rw [if_neg (by intro z; exact nomatch beq_iff_eq.mp z)]
  simp only [h, h5, if_true]
theorem exm_ref {K : PySem.W.Frag} {t : Value} {S : Addr} {b : Bool} (h1 : PySem.W.subIn K (.ref S) (.type "BaseException") = some true) (h2 : PySem.W.isClsIn K S = true) (h3 : PySem.W.typeIn K (.ref S) = some (.type "type")) (h4 : PySem.W.subIn K t (.ref S) = some b) :
    PySem.W.exmOne K t (.ref S) = some b := by
  have h2' : (PySem.W.clsIn K S).isSome = true := h2
  unfold PySem.W.exmOne PySem.W.kitCls
  simp only [h1, h2', h3, h4, beq_self_eq_true, Bool.and_self, if_true]
theorem all_mk {l : PySem.W.OpenLaw} {w : World} {K : PySem.W.Frag} {h : Heap} {mg : Str → Option Value} {fa : Addr} {f1 f2 f3 f12 f13 f14 f15 f16 f17 f18 f19 f20 f21 f23 f24 f25 f26 f27 f32 f33 f34 f35 f36 f37 f38 f39 f40 f41 f42 f43 : Addr} (X : K.In h) (G : h.Ns mainGlobals mg) (hfa : mg "law" = some (.ref fa))
    {oc1 kV1 dc1 pm1 cd1 ct1 : Value} {od1 an1 : Option Addr} {sl1 : Array (Option Value)}
    {oc2 kV2 dc2 pm2 cd2 ct2 : Value} {od2 an2 : Option Addr} {sl2 : Array (Option Value)}
    {oc3 kV3 dc3 pm3 cd3 ct3 : Value} {od3 an3 : Option Addr} {sl3 : Array (Option Value)}
    {oc12 kV12 dc12 pm12 cd12 ct12 : Value} {od12 an12 : Option Addr} {sl12 : Array (Option Value)}
    {oc13 kV13 dc13 pm13 cd13 ct13 : Value} {od13 an13 : Option Addr} {sl13 : Array (Option Value)}
    {oc14 kV14 dc14 pm14 cd14 ct14 : Value} {od14 an14 : Option Addr} {sl14 : Array (Option Value)}
    {oc15 kV15 dc15 pm15 cd15 ct15 : Value} {od15 an15 : Option Addr} {sl15 : Array (Option Value)}
    {oc16 kV16 dc16 pm16 cd16 ct16 : Value} {od16 an16 : Option Addr} {sl16 : Array (Option Value)}
    {oc17 kV17 dc17 pm17 cd17 ct17 : Value} {od17 an17 : Option Addr} {sl17 : Array (Option Value)}
    {oc18 kV18 dc18 pm18 cd18 ct18 : Value} {od18 an18 : Option Addr} {sl18 : Array (Option Value)}
    {oc19 kV19 dc19 pm19 cd19 ct19 : Value} {od19 an19 : Option Addr} {sl19 : Array (Option Value)}
    {oc20 kV20 dc20 pm20 cd20 ct20 : Value} {od20 an20 : Option Addr} {sl20 : Array (Option Value)}
    {oc21 kV21 dc21 pm21 cd21 ct21 : Value} {od21 an21 : Option Addr} {sl21 : Array (Option Value)}
    {oc23 kV23 dc23 pm23 cd23 ct23 : Value} {od23 an23 : Option Addr} {sl23 : Array (Option Value)}
    {oc24 kV24 dc24 pm24 cd24 ct24 : Value} {od24 an24 : Option Addr} {sl24 : Array (Option Value)}
    {oc25 kV25 dc25 pm25 cd25 ct25 : Value} {od25 an25 : Option Addr} {sl25 : Array (Option Value)}
    {oc26 kV26 dc26 pm26 cd26 ct26 : Value} {od26 an26 : Option Addr} {sl26 : Array (Option Value)}
    {oc27 kV27 dc27 pm27 cd27 ct27 : Value} {od27 an27 : Option Addr} {sl27 : Array (Option Value)}
    {oc32 kV32 dc32 pm32 cd32 ct32 : Value} {od32 an32 : Option Addr} {sl32 : Array (Option Value)}
    {oc33 kV33 dc33 pm33 cd33 ct33 : Value} {od33 an33 : Option Addr} {sl33 : Array (Option Value)}
    {oc34 kV34 dc34 pm34 cd34 ct34 : Value} {od34 an34 : Option Addr} {sl34 : Array (Option Value)}
    {oc35 kV35 dc35 pm35 cd35 ct35 : Value} {od35 an35 : Option Addr} {sl35 : Array (Option Value)}
    {oc36 kV36 dc36 pm36 cd36 ct36 : Value} {od36 an36 : Option Addr} {sl36 : Array (Option Value)}
    {oc37 kV37 dc37 pm37 cd37 ct37 : Value} {od37 an37 : Option Addr} {sl37 : Array (Option Value)}
    {oc38 kV38 dc38 pm38 cd38 ct38 : Value} {od38 an38 : Option Addr} {sl38 : Array (Option Value)}
    {oc39 kV39 dc39 pm39 cd39 ct39 : Value} {od39 an39 : Option Addr} {sl39 : Array (Option Value)}
    {oc40 kV40 dc40 pm40 cd40 ct40 : Value} {od40 an40 : Option Addr} {sl40 : Array (Option Value)}
    {oc41 kV41 dc41 pm41 cd41 ct41 : Value} {od41 an41 : Option Addr} {sl41 : Array (Option Value)}
    {oc42 kV42 dc42 pm42 cd42 ct42 : Value} {od42 an42 : Option Addr} {sl42 : Array (Option Value)}
    {oc43 kV43 dc43 pm43 cd43 ct43 : Value} {od43 an43 : Option Addr} {sl43 : Array (Option Value)}
    {tMOST_BARS}
    {tMOST_MOMENT}
    {tMOST_APART}
    (a1 : PySem.W.nsIn K mainGlobals "is_integer" = some (some (.ref f1)))
    (l1 : K.lookup f1 = some ⟨oc1, od1, .func (PySem.W.fnOf "is_integer" "is_integer" (defArgs sInteger) (defBody sInteger) (defScope sInteger) .none kV1 dc1 pm1 an1 cd1 ct1), sl1⟩)
    (c1 : PySem.W.codeIn K cd1 "is_integer" = true)
    (k1 : PySem.W.keepIn K (.ref f1) = true)
    (a2 : PySem.W.nsIn K mainGlobals "is_number" = some (some (.ref f2)))
    (l2 : K.lookup f2 = some ⟨oc2, od2, .func (PySem.W.fnOf "is_number" "is_number" (defArgs sNumber) (defBody sNumber) (defScope sNumber) .none kV2 dc2 pm2 an2 cd2 ct2), sl2⟩)
    (c2 : PySem.W.codeIn K cd2 "is_number" = true)
    (k2 : PySem.W.keepIn K (.ref f2) = true)
    (a3 : PySem.W.nsIn K mainGlobals "is_ascending" = some (some (.ref f3)))
    (l3 : K.lookup f3 = some ⟨oc3, od3, .func (PySem.W.fnOf "is_ascending" "is_ascending" (defArgs sAsc) (defBody sAsc) (defScope sAsc) .none kV3 dc3 pm3 an3 cd3 ct3), sl3⟩)
    (c3 : PySem.W.codeIn K cd3 "is_ascending" = true)
    (k3 : PySem.W.keepIn K (.ref f3) = true)
    (a12 : PySem.W.nsIn K mainGlobals "is_moment" = some (some (.ref f12)))
    (l12 : K.lookup f12 = some ⟨oc12, od12, .func (PySem.W.fnOf "is_moment" "is_moment" (defArgs sMoment) (defBody sMoment) (defScope sMoment) .none kV12 dc12 pm12 an12 cd12 ct12), sl12⟩)
    (c12 : PySem.W.codeIn K cd12 "is_moment" = true)
    (k12 : PySem.W.keepIn K (.ref f12) = true)
    (a13 : PySem.W.nsIn K mainGlobals "is_bar" = some (some (.ref f13)))
    (l13 : K.lookup f13 = some ⟨oc13, od13, .func (PySem.W.fnOf "is_bar" "is_bar" (defArgs sIsBar) (defBody sIsBar) (defScope sIsBar) .none kV13 dc13 pm13 an13 cd13 ct13), sl13⟩)
    (c13 : PySem.W.codeIn K cd13 "is_bar" = true)
    (k13 : PySem.W.keepIn K (.ref f13) = true)
    (a14 : PySem.W.nsIn K mainGlobals "demand_bars" = some (some (.ref f14)))
    (l14 : K.lookup f14 = some ⟨oc14, od14, .func (PySem.W.fnOf "demand_bars" "demand_bars" (defArgs sDemB) (defBody sDemB) (defScope sDemB) .none kV14 dc14 pm14 an14 cd14 ct14), sl14⟩)
    (c14 : PySem.W.codeIn K cd14 "demand_bars" = true)
    (k14 : PySem.W.keepIn K (.ref f14) = true)
    (a15 : PySem.W.nsIn K mainGlobals "demand_both" = some (some (.ref f15)))
    (l15 : K.lookup f15 = some ⟨oc15, od15, .func (PySem.W.fnOf "demand_both" "demand_both" (defArgs sDem2) (defBody sDem2) (defScope sDem2) .none kV15 dc15 pm15 an15 cd15 ct15), sl15⟩)
    (c15 : PySem.W.codeIn K cd15 "demand_both" = true)
    (k15 : PySem.W.keepIn K (.ref f15) = true)
    (a16 : PySem.W.nsIn K mainGlobals "fit" = some (some (.ref f16)))
    (l16 : K.lookup f16 = some ⟨oc16, od16, .func (PySem.W.fnOf "fit" "fit" (defArgs sFit) (defBody sFit) (defScope sFit) .none kV16 dc16 pm16 an16 cd16 ct16), sl16⟩)
    (c16 : PySem.W.codeIn K cd16 "fit" = true)
    (k16 : PySem.W.keepIn K (.ref f16) = true)
    (a17 : PySem.W.nsIn K mainGlobals "is_short" = some (some (.ref f17)))
    (l17 : K.lookup f17 = some ⟨oc17, od17, .func (PySem.W.fnOf "is_short" "is_short" (defArgs sShort) (defBody sShort) (defScope sShort) .none kV17 dc17 pm17 an17 cd17 ct17), sl17⟩)
    (c17 : PySem.W.codeIn K cd17 "is_short" = true)
    (k17 : PySem.W.keepIn K (.ref f17) = true)
    (a18 : PySem.W.nsIn K mainGlobals "long_numbers" = some (some (.ref f18)))
    (l18 : K.lookup f18 = some ⟨oc18, od18, .func (PySem.W.fnOf "long_numbers" "long_numbers" (defArgs sLong) (defBody sLong) (defScope sLong) .none kV18 dc18 pm18 an18 cd18 ct18), sl18⟩)
    (c18 : PySem.W.codeIn K cd18 "long_numbers" = true)
    (k18 : PySem.W.keepIn K (.ref f18) = true)
    (a19 : PySem.W.nsIn K mainGlobals "is_pairs" = some (some (.ref f19)))
    (l19 : K.lookup f19 = some ⟨oc19, od19, .func (PySem.W.fnOf "is_pairs" "is_pairs" (defArgs sPairs) (defBody sPairs) (defScope sPairs) .none kV19 dc19 pm19 an19 cd19 ct19), sl19⟩)
    (c19 : PySem.W.codeIn K cd19 "is_pairs" = true)
    (k19 : PySem.W.keepIn K (.ref f19) = true)
    (a20 : PySem.W.nsIn K mainGlobals "is_pairing" = some (some (.ref f20)))
    (l20 : K.lookup f20 = some ⟨oc20, od20, .func (PySem.W.fnOf "is_pairing" "is_pairing" (defArgs sPairing) (defBody sPairing) (defScope sPairing) .none kV20 dc20 pm20 an20 cd20 ct20), sl20⟩)
    (c20 : PySem.W.codeIn K cd20 "is_pairing" = true)
    (k20 : PySem.W.keepIn K (.ref f20) = true)
    (a21 : PySem.W.nsIn K mainGlobals "is_ban" = some (some (.ref f21)))
    (l21 : K.lookup f21 = some ⟨oc21, od21, .func (PySem.W.fnOf "is_ban" "is_ban" (defArgs sBan) (defBody sBan) (defScope sBan) .none kV21 dc21 pm21 an21 cd21 ct21), sl21⟩)
    (c21 : PySem.W.codeIn K cd21 "is_ban" = true)
    (k21 : PySem.W.keepIn K (.ref f21) = true)
    (a23 : PySem.W.nsIn K mainGlobals "_law_bag" = some (some (.ref f23)))
    (l23 : K.lookup f23 = some ⟨oc23, od23, .func (PySem.W.fnOf "_law_bag" "_law_bag" (defArgs sBag) (defBody sBag) (defScope sBag) .none kV23 dc23 pm23 an23 cd23 ct23), sl23⟩)
    (c23 : PySem.W.codeIn K cd23 "_law_bag" = true)
    (k23 : PySem.W.keepIn K (.ref f23) = true)
    (a24 : PySem.W.nsIn K mainGlobals "_law_pick" = some (some (.ref f24)))
    (l24 : K.lookup f24 = some ⟨oc24, od24, .func (PySem.W.fnOf "_law_pick" "_law_pick" (defArgs sPick) (defBody sPick) (defScope sPick) .none kV24 dc24 pm24 an24 cd24 ct24), sl24⟩)
    (c24 : PySem.W.codeIn K cd24 "_law_pick" = true)
    (k24 : PySem.W.keepIn K (.ref f24) = true)
    (a25 : PySem.W.nsIn K mainGlobals "_law_some" = some (some (.ref f25)))
    (l25 : K.lookup f25 = some ⟨oc25, od25, .func (PySem.W.fnOf "_law_some" "_law_some" (defArgs sSome) (defBody sSome) (defScope sSome) .none kV25 dc25 pm25 an25 cd25 ct25), sl25⟩)
    (c25 : PySem.W.codeIn K cd25 "_law_some" = true)
    (k25 : PySem.W.keepIn K (.ref f25) = true)
    (a26 : PySem.W.nsIn K mainGlobals "_law_fits" = some (some (.ref f26)))
    (l26 : K.lookup f26 = some ⟨oc26, od26, .func (PySem.W.fnOf "_law_fits" "_law_fits" (defArgs sFits) (defBody sFits) (defScope sFits) .none kV26 dc26 pm26 an26 cd26 ct26), sl26⟩)
    (c26 : PySem.W.codeIn K cd26 "_law_fits" = true)
    (k26 : PySem.W.keepIn K (.ref f26) = true)
    (a27 : PySem.W.nsIn K mainGlobals "_law_is_long" = some (some (.ref f27)))
    (l27 : K.lookup f27 = some ⟨oc27, od27, .func (PySem.W.fnOf "_law_is_long" "_law_is_long" (defArgs sIsLong) (defBody sIsLong) (defScope sIsLong) .none kV27 dc27 pm27 an27 cd27 ct27), sl27⟩)
    (c27 : PySem.W.codeIn K cd27 "_law_is_long" = true)
    (k27 : PySem.W.keepIn K (.ref f27) = true)
    (a32 : PySem.W.nsIn K mainGlobals "_law_bar" = some (some (.ref f32)))
    (l32 : K.lookup f32 = some ⟨oc32, od32, .func (PySem.W.fnOf "_law_bar" "_law_bar" (defArgs sLBar) (defBody sLBar) (defScope sLBar) .none kV32 dc32 pm32 an32 cd32 ct32), sl32⟩)
    (c32 : PySem.W.codeIn K cd32 "_law_bar" = true)
    (k32 : PySem.W.keepIn K (.ref f32) = true)
    (a33 : PySem.W.nsIn K mainGlobals "_law_moved" = some (some (.ref f33)))
    (l33 : K.lookup f33 = some ⟨oc33, od33, .func (PySem.W.fnOf "_law_moved" "_law_moved" (defArgs sMoved) (defBody sMoved) (defScope sMoved) .none kV33 dc33 pm33 an33 cd33 ct33), sl33⟩)
    (c33 : PySem.W.codeIn K cd33 "_law_moved" = true)
    (k33 : PySem.W.keepIn K (.ref f33) = true)
    (a34 : PySem.W.nsIn K mainGlobals "_law_lists" = some (some (.ref f34)))
    (l34 : K.lookup f34 = some ⟨oc34, od34, .func (PySem.W.fnOf "_law_lists" "_law_lists" (defArgs sLists) (defBody sLists) (defScope sLists) .none kV34 dc34 pm34 an34 cd34 ct34), sl34⟩)
    (c34 : PySem.W.codeIn K cd34 "_law_lists" = true)
    (k34 : PySem.W.keepIn K (.ref f34) = true)
    (a35 : PySem.W.nsIn K mainGlobals "_law_is_number" = some (some (.ref f35)))
    (l35 : K.lookup f35 = some ⟨oc35, od35, .func (PySem.W.fnOf "_law_is_number" "_law_is_number" (defArgs sLNum) (defBody sLNum) (defScope sLNum) .none kV35 dc35 pm35 an35 cd35 ct35), sl35⟩)
    (c35 : PySem.W.codeIn K cd35 "_law_is_number" = true)
    (k35 : PySem.W.keepIn K (.ref f35) = true)
    (a36 : PySem.W.nsIn K mainGlobals "_law_is_pairing" = some (some (.ref f36)))
    (l36 : K.lookup f36 = some ⟨oc36, od36, .func (PySem.W.fnOf "_law_is_pairing" "_law_is_pairing" (defArgs sLPair) (defBody sLPair) (defScope sLPair) .none kV36 dc36 pm36 an36 cd36 ct36), sl36⟩)
    (c36 : PySem.W.codeIn K cd36 "_law_is_pairing" = true)
    (k36 : PySem.W.keepIn K (.ref f36) = true)
    (a37 : PySem.W.nsIn K mainGlobals "_law_is_ban" = some (some (.ref f37)))
    (l37 : K.lookup f37 = some ⟨oc37, od37, .func (PySem.W.fnOf "_law_is_ban" "_law_is_ban" (defArgs sLBan) (defBody sLBan) (defScope sLBan) .none kV37 dc37 pm37 an37 cd37 ct37), sl37⟩)
    (c37 : PySem.W.codeIn K cd37 "_law_is_ban" = true)
    (k37 : PySem.W.keepIn K (.ref f37) = true)
    (a38 : PySem.W.nsIn K mainGlobals "_law_deep" = some (some (.ref f38)))
    (l38 : K.lookup f38 = some ⟨oc38, od38, .func (PySem.W.fnOf "_law_deep" "_law_deep" (defArgs sDeep) (defBody sDeep) (defScope sDeep) .none kV38 dc38 pm38 an38 cd38 ct38), sl38⟩)
    (c38 : PySem.W.codeIn K cd38 "_law_deep" = true)
    (k38 : PySem.W.keepIn K (.ref f38) = true)
    (a39 : PySem.W.nsIn K mainGlobals "_law_drawn" = some (some (.ref f39)))
    (l39 : K.lookup f39 = some ⟨oc39, od39, .func (PySem.W.fnOf "_law_drawn" "_law_drawn" (defArgs sDrawn) (defBody sDrawn) (defScope sDrawn) .none kV39 dc39 pm39 an39 cd39 ct39), sl39⟩)
    (c39 : PySem.W.codeIn K cd39 "_law_drawn" = true)
    (k39 : PySem.W.keepIn K (.ref f39) = true)
    (a40 : PySem.W.nsIn K mainGlobals "_law_bent" = some (some (.ref f40)))
    (l40 : K.lookup f40 = some ⟨oc40, od40, .func (PySem.W.fnOf "_law_bent" "_law_bent" (defArgs sBent) (defBody sBent) (defScope sBent) .none kV40 dc40 pm40 an40 cd40 ct40), sl40⟩)
    (c40 : PySem.W.codeIn K cd40 "_law_bent" = true)
    (k40 : PySem.W.keepIn K (.ref f40) = true)
    (a41 : PySem.W.nsIn K mainGlobals "_law_is_flag" = some (some (.ref f41)))
    (l41 : K.lookup f41 = some ⟨oc41, od41, .func (PySem.W.fnOf "_law_is_flag" "_law_is_flag" (defArgs sFlag) (defBody sFlag) (defScope sFlag) .none kV41 dc41 pm41 an41 cd41 ct41), sl41⟩)
    (c41 : PySem.W.codeIn K cd41 "_law_is_flag" = true)
    (k41 : PySem.W.keepIn K (.ref f41) = true)
    (a42 : PySem.W.nsIn K mainGlobals "_law_lots" = some (some (.ref f42)))
    (l42 : K.lookup f42 = some ⟨oc42, od42, .func (PySem.W.fnOf "_law_lots" "_law_lots" (defArgs sLots) (defBody sLots) (defScope sLots) .none kV42 dc42 pm42 an42 cd42 ct42), sl42⟩)
    (c42 : PySem.W.codeIn K cd42 "_law_lots" = true)
    (k42 : PySem.W.keepIn K (.ref f42) = true)
    (a43 : PySem.W.nsIn K mainGlobals "law" = some (some (.ref f43)))
    (l43 : K.lookup f43 = some ⟨oc43, od43, .func (PySem.W.fnOf "law" "law" (defArgs sLaw) (defBody sLaw) (defScope sLaw) .none kV43 dc43 pm43 an43 cd43 ct43), sl43⟩)
    (c43 : PySem.W.codeIn K cd43 "law" = true)
    (k43 : PySem.W.keepIn K (.ref f43) = true)
    (hn : PySem.W.specialIn K (.builtin "object.__class__") "__get__" = some (some (.builtin "getset_descriptor.__get__")))
    (ht : PySem.W.takesIn K (.builtin "object.__class__") = some true)
    (vMOST_BARS : PySem.W.nsIn K mainGlobals "MOST_BARS" = some (some (.int 20 tMOST_BARS)))
    (vMOST_MOMENT : PySem.W.nsIn K mainGlobals "MOST_MOMENT" = some (some (.int 1000 tMOST_MOMENT)))
    (vMOST_APART : PySem.W.nsIn K mainGlobals "MOST_APART" = some (some (.int 2000 tMOST_APART)))
    (zlen : PySem.W.nsIn K mainGlobals "len" = some none)
    (zint : PySem.W.nsIn K mainGlobals "int" = some none)
    (zbool : PySem.W.nsIn K mainGlobals "bool" = some none)
    (zisinstance : PySem.W.nsIn K mainGlobals "isinstance" = some none)
    (ztuple : PySem.W.nsIn K mainGlobals "tuple" = some none)
    (zall : PySem.W.nsIn K mainGlobals "all" = some none)
    (zenumerate : PySem.W.nsIn K mainGlobals "enumerate" = some none)
    (zlist : PySem.W.nsIn K mainGlobals "list" = some none)
    (zrange : PySem.W.nsIn K mainGlobals "range" = some none)
    (zmin : PySem.W.nsIn K mainGlobals "min" = some none)
    (zmax : PySem.W.nsIn K mainGlobals "max" = some none)
    (zsorted : PySem.W.nsIn K mainGlobals "sorted" = some none)
    (zset : PySem.W.nsIn K mainGlobals "set" = some none)
    (zstr : PySem.W.nsIn K mainGlobals "str" = some none)
    (zabs : PySem.W.nsIn K mainGlobals "abs" = some none)
    (zValueError : PySem.W.nsIn K mainGlobals "ValueError" = some none)
    (zzip : PySem.W.nsIn K mainGlobals "zip" = some none)
    (zany : PySem.W.nsIn K mainGlobals "any" = some none) :
    ∃ fd : FuncData, (∀ (s : Shared) (v : Value), BindsTo s fd ⟨[v], []⟩ [("_law_script", v)]) ∧ ∀ base : Heap, K.In base → base.Ns mainGlobals mg → FnOk l.prog w K mg base CX0 7 fa fd ["_law_script"] (spLaw K) := by
  have e := hfa.symm.trans (PySem.W.mg_of X G a43)
  cases e
  have F1 := fun_mk (st := sInteger) l1 c1 k1
  have b1 := F1.binds (ps := ["thing"]) fun _ _ _ _ _ _ us hl => match us, hl with | [_], _ => rfl
  have F2 := fun_mk (st := sNumber) l2 c2 k2
  have b2 := F2.binds (ps := ["most", "thing"]) fun _ _ _ _ _ _ us hl => match us, hl with | [_, _], _ => rfl
  have F3 := fun_mk (st := sAsc) l3 c3 k3
  have b3 := F3.binds (ps := ["most", "thing"]) fun _ _ _ _ _ _ us hl => match us, hl with | [_, _], _ => rfl
  have F12 := fun_mk (st := sMoment) l12 c12 k12
  have b12 := F12.binds (ps := ["thing"]) fun _ _ _ _ _ _ us hl => match us, hl with | [_], _ => rfl
  have F13 := fun_mk (st := sIsBar) l13 c13 k13
  have b13 := F13.binds (ps := ["thing"]) fun _ _ _ _ _ _ us hl => match us, hl with | [_], _ => rfl
  have F14 := fun_mk (st := sDemB) l14 c14 k14
  have b14 := F14.binds (ps := ["thing"]) fun _ _ _ _ _ _ us hl => match us, hl with | [_], _ => rfl
  have F15 := fun_mk (st := sDem2) l15 c15 k15
  have b15 := F15.binds (ps := ["one", "other", "e"]) fun _ _ _ _ _ _ us hl => match us, hl with | [_, _, _], _ => rfl
  have F16 := fun_mk (st := sFit) l16 c16 k16
  have b16 := F16.binds (ps := ["bar", "other", "e"]) fun _ _ _ _ _ _ us hl => match us, hl with | [_, _, _], _ => rfl
  have F17 := fun_mk (st := sShort) l17 c17 k17
  have b17 := F17.binds (ps := ["bar", "e"]) fun _ _ _ _ _ _ us hl => match us, hl with | [_, _], _ => rfl
  have F18 := fun_mk (st := sLong) l18 c18 k18
  have b18 := F18.binds (ps := ["bars", "e"]) fun _ _ _ _ _ _ us hl => match us, hl with | [_, _], _ => rfl
  have F19 := fun_mk (st := sPairs) l19 c19 k19
  have b19 := F19.binds (ps := ["many", "others", "thing"]) fun _ _ _ _ _ _ us hl => match us, hl with | [_, _, _], _ => rfl
  have F20 := fun_mk (st := sPairing) l20 c20 k20
  have b20 := F20.binds (ps := ["one", "other", "e", "thing"]) fun _ _ _ _ _ _ us hl => match us, hl with | [_, _, _, _], _ => rfl
  have F21 := fun_mk (st := sBan) l21 c21 k21
  have b21 := F21.binds (ps := ["one", "other", "e", "thing"]) fun _ _ _ _ _ _ us hl => match us, hl with | [_, _, _, _], _ => rfl
  have F23 := fun_mk (st := sBag) l23 c23 k23
  have b23 := F23.binds (ps := ["_law_script"]) fun _ _ _ _ _ _ us hl => match us, hl with | [_], _ => rfl
  have F24 := fun_mk (st := sPick) l24 c24 k24
  have b24 := F24.binds (ps := ["_law_bag_here", "_law_many"]) fun _ _ _ _ _ _ us hl => match us, hl with | [_, _], _ => rfl
  have F25 := fun_mk (st := sSome) l25 c25 k25
  have b25 := F25.binds (ps := ["_law_bag_here", "_law_things"]) fun _ _ _ _ _ _ us hl => match us, hl with | [_, _], _ => rfl
  have F26 := fun_mk (st := sFits) l26 c26 k26
  have b26 := F26.binds (ps := ["_law_bar", "_law_other", "_law_e"]) fun _ _ _ _ _ _ us hl => match us, hl with | [_, _, _], _ => rfl
  have F27 := fun_mk (st := sIsLong) l27 c27 k27
  have b27 := F27.binds (ps := ["_law_bar", "_law_e"]) fun _ _ _ _ _ _ us hl => match us, hl with | [_, _], _ => rfl
  have F32 := fun_mk (st := sLBar) l32 c32 k32
  have b32 := F32.binds (ps := ["_law_bag_here", "_law_wide"]) fun _ _ _ _ _ _ us hl => match us, hl with | [_, _], _ => rfl
  have F33 := fun_mk (st := sMoved) l33 c33 k33
  have b33 := F33.binds (ps := ["_law_bag_here", "_law_bar_here", "_law_wide"]) fun _ _ _ _ _ _ us hl => match us, hl with | [_, _, _], _ => rfl
  have F34 := fun_mk (st := sLists) l34 c34 k34
  have b34 := F34.binds (ps := ["_law_bag_here", "_law_wide", "_law_most"]) fun _ _ _ _ _ _ us hl => match us, hl with | [_, _, _], _ => rfl
  have F35 := fun_mk (st := sLNum) l35 c35 k35
  have b35 := F35.binds (ps := ["_law_thing", "_law_below"]) fun _ _ _ _ _ _ us hl => match us, hl with | [_, _], _ => rfl
  have F36 := fun_mk (st := sLPair) l36 c36 k36
  have b36 := F36.binds (ps := ["_law_one", "_law_other", "_law_e", "_law_thing"]) fun _ _ _ _ _ _ us hl => match us, hl with | [_, _, _, _], _ => rfl
  have F37 := fun_mk (st := sLBan) l37 c37 k37
  have b37 := F37.binds (ps := ["_law_one", "_law_other", "_law_e", "_law_thing"]) fun _ _ _ _ _ _ us hl => match us, hl with | [_, _, _, _], _ => rfl
  have F38 := fun_mk (st := sDeep) l38 c38 k38
  have b38 := F38.binds (ps := ["_law_bag_here"]) fun _ _ _ _ _ _ us hl => match us, hl with | [_], _ => rfl
  have F39 := fun_mk (st := sDrawn) l39 c39 k39
  have b39 := F39.binds (ps := ["_law_bag_here", "_law_one", "_law_other", "_law_e"]) fun _ _ _ _ _ _ us hl => match us, hl with | [_, _, _, _], _ => rfl
  have F40 := fun_mk (st := sBent) l40 c40 k40
  have b40 := F40.binds (ps := ["_law_bag_here", "_law_pairs", "_law_many", "_law_more"]) fun _ _ _ _ _ _ us hl => match us, hl with | [_, _, _, _], _ => rfl
  have F41 := fun_mk (st := sFlag) l41 c41 k41
  have b41 := F41.binds (ps := ["_law_told", "_law_due"]) fun _ _ _ _ _ _ us hl => match us, hl with | [_, _], _ => rfl
  have F42 := fun_mk (st := sLots) l42 c42 k42
  have b42 := F42.binds (ps := ["_law_many"]) fun _ _ _ _ _ _ us hl => match us, hl with | [_], _ => rfl
  have F43 := fun_mk (st := sLaw) l43 c43 k43
  have b43 := F43.binds (ps := ["_law_script"]) fun _ _ _ _ _ _ us hl => match us, hl with | [_], _ => rfl
  have nn : ∀ {x : Str}, PySem.W.nsIn K mainGlobals x = some none → mg x = none := fun z => PySem.W.mg_none_of X G z
  have T : Gb mg := ⟨nn zlen, nn zint, nn zbool, nn zisinstance, nn ztuple, nn zall, nn zenumerate, nn zlist, nn zrange, nn zmin, nn zmax, nn zsorted, nn zset, nn zstr, nn zabs, nn zValueError⟩
  have M : MoreC mg := ⟨nn zzip⟩
  have nA : mg "any" = none := nn zany
  have B : BarC mg := ⟨⟨tMOST_BARS, PySem.W.mg_of X G vMOST_BARS⟩, ⟨tMOST_MOMENT, PySem.W.mg_of X G vMOST_MOMENT⟩, ⟨tMOST_APART, PySem.W.mg_of X G vMOST_APART⟩⟩
  refine ⟨PySem.W.fnOf "law" "law" (defArgs sLaw) (defBody sLaw) (defScope sLaw) .none kV43 dc43 pm43 an43 cd43 ct43, fun s v => .of_eq rfl, fun base _ _ => ?_⟩
  have cInt : Cal l.prog w K mg base 1 "is_integer" (spInteger K) [] := ⟨⟨f1, _, _, [], ok_integer F1 T, PySem.W.mg_of X G a1, k1, b1, .nil⟩⟩
  have cNum : Cal l.prog w K mg base 2 "is_number" (spNumber K) [] := ⟨⟨f2, _, _, [], ok_number F2 cInt, PySem.W.mg_of X G a2, k2, b2, .nil⟩⟩
  have cAsc : Cal l.prog w K mg base 3 "is_ascending" (spAsc K) [] := ⟨⟨f3, _, _, [], ok_asc F3 T M cNum, PySem.W.mg_of X G a3, k3, b3, .nil⟩⟩
  have cMom : Cal l.prog w K mg base 2 "is_moment" spMoment [] := ⟨⟨f12, _, _, [], ok_moment F12 B cInt, PySem.W.mg_of X G a12, k12, b12, .nil⟩⟩
  have cIsB : Cal l.prog w K mg base 3 "is_bar" spIsBar [] := ⟨⟨f13, _, _, [], ok_isBar F13 T cMom, PySem.W.mg_of X G a13, k13, b13, .nil⟩⟩
  have cDB : Cal l.prog w K mg base 4 "demand_bars" spDemB [] := ⟨⟨f14, _, _, [], ok_demB F14 T B cIsB, PySem.W.mg_of X G a14, k14, b14, .nil⟩⟩
  have cD2 : Cal l.prog w K mg base 5 "demand_both" spDem2 [] := ⟨⟨f15, _, _, [], ok_dem2 F15 B cDB cNum, PySem.W.mg_of X G a15, k15, b15, .nil⟩⟩
  have cFit : Cal l.prog w K mg base 1 "fit" spFit [] := ⟨⟨f16, _, _, [], ok_fit F16 T, PySem.W.mg_of X G a16, k16, b16, .nil⟩⟩
  have cSh : Cal l.prog w K mg base 1 "is_short" spShort [] := ⟨⟨f17, _, _, [], ok_short F17, PySem.W.mg_of X G a17, k17, b17, .nil⟩⟩
  have cLg : Cal l.prog w K mg base 2 "long_numbers" spLong [] := ⟨⟨f18, _, _, [], ok_long F18 T cSh, PySem.W.mg_of X G a18, k18, b18, .nil⟩⟩
  have cPs : Cal l.prog w K mg base 4 "is_pairs" (spPairs K) [] := ⟨⟨f19, _, _, [], ok_pairs F19 T cNum cAsc, PySem.W.mg_of X G a19, k19, b19, .nil⟩⟩
  have cIP : Cal l.prog w K mg base 6 "is_pairing" (spPairing K) [] := ⟨⟨f20, _, _, [], ok_pairing F20 T cD2 cPs cFit cLg, PySem.W.mg_of X G a20, k20, b20, .nil⟩⟩
  have cIB : Cal l.prog w K mg base 6 "is_ban" (spBan K) [] := ⟨⟨f21, _, _, [], ok_ban F21 T nA cD2 cNum cAsc cFit cSh, PySem.W.mg_of X G a21, k21, b21, .nil⟩⟩
  have cBag : Cal l.prog w K mg base 1 "_law_bag" (spBag K) [] := ⟨⟨f23, _, _, [], ok_bag F23 T, PySem.W.mg_of X G a23, k23, b23, .nil⟩⟩
  have cPick : Cal l.prog w K mg base 1 "_law_pick" spPick [] := ⟨⟨f24, _, _, [], ok_pick F24 ⟨T.len, T.int⟩, PySem.W.mg_of X G a24, k24, b24, .nil⟩⟩
  have cSome : Cal l.prog w K mg base 2 "_law_some" spSome [] := ⟨⟨f25, _, _, [], ok_some F25 ⟨T.len, T.int⟩ cPick, PySem.W.mg_of X G a25, k25, b25, .nil⟩⟩
  have cLF : Cal l.prog w K mg base 1 "_law_fits" spFit [] := ⟨⟨f26, _, _, [], ok_fits F26 T, PySem.W.mg_of X G a26, k26, b26, .nil⟩⟩
  have cIL : Cal l.prog w K mg base 1 "_law_is_long" spIsLong [] := ⟨⟨f27, _, _, [], ok_isLong F27, PySem.W.mg_of X G a27, k27, b27, .nil⟩⟩
  have cLB : Cal l.prog w K mg base 3 "_law_bar" spLBar [] := ⟨⟨f32, _, _, [], ok_lbar F32 T cPick cSome, PySem.W.mg_of X G a32, k32, b32, .nil⟩⟩
  have cMv : Cal l.prog w K mg base 2 "_law_moved" spMoved [] := ⟨⟨f33, _, _, [], ok_moved F33 T cPick, PySem.W.mg_of X G a33, k33, b33, .nil⟩⟩
  have cLs : Cal l.prog w K mg base 4 "_law_lists" spLists [] := ⟨⟨f34, _, _, [], ok_lists F34 T cPick cLB cMv, PySem.W.mg_of X G a34, k34, b34, .nil⟩⟩
  have cLN : Cal l.prog w K mg base 1 "_law_is_number" (spLNum K) [] := ⟨⟨f35, _, _, [], ok_lnum F35 T, PySem.W.mg_of X G a35, k35, b35, .nil⟩⟩
  have cLP : Cal l.prog w K mg base 2 "_law_is_pairing" (spPairing K) [] := ⟨⟨f36, _, _, [], ok_lpair F36 T nA cLN cLF cIL, PySem.W.mg_of X G a36, k36, b36, .nil⟩⟩
  have cLBn : Cal l.prog w K mg base 2 "_law_is_ban" (spBan K) [] := ⟨⟨f37, _, _, [], ok_lban F37 T nA cLN cLF cIL, PySem.W.mg_of X G a37, k37, b37, .nil⟩⟩
  have cDe : Cal l.prog w K mg base 3 "_law_deep" (spDeep K) [] := ⟨⟨f38, _, _, [], ok_deep F38 T cPick cSome, PySem.W.mg_of X G a38, k38, b38, .nil⟩⟩
  have cDr : Cal l.prog w K mg base 3 "_law_drawn" spDrawn [] := ⟨⟨f39, _, _, [], ok_drawn F39 T cPick cSome cLF, PySem.W.mg_of X G a39, k39, b39, .nil⟩⟩
  have cBe : Cal l.prog w K mg base 3 "_law_bent" (spBent K) [] := ⟨⟨f40, _, _, [], ok_bent F40 T cPick cSome, PySem.W.mg_of X G a40, k40, b40, .nil⟩⟩
  have cFl : Cal l.prog w K mg base 1 "_law_is_flag" spFlag [] := ⟨⟨f41, _, _, [], ok_flag F41 T, PySem.W.mg_of X G a41, k41, b41, .nil⟩⟩
  have cLo : Cal l.prog w K mg base 1 "_law_lots" spLots [] := ⟨⟨f42, _, _, [], ok_lots F42 T, PySem.W.mg_of X G a42, k42, b42, .nil⟩⟩
  exact ok_law F43 T cBag cPick cSome cLs cDe cDr cBe cLo cFl cIP cIB cLP cLBn
theorem walk {l : PySem.W.OpenLaw} {q : Program} {loose : List Str} {XP : (Str → Option Value) → Heap → Prop} {YP : World → Heap → Prop} {d : DefRec} {K : Params → PySem.W.Frag} (hn : l.most = some 63) (hdf : d.params.defaults = [])
    (hY : ∀ (w : World) (h : Heap), YP w h → (K w.params).In h)
    (F : ∀ (w : World) (mg : Str → Option Value) (fa : Addr) (h : Heap), (K w.params).In h → h.Ns mainGlobals mg → mg d.name = some (.ref fa) →
      ∃ fd : FuncData, (∀ (s : Shared) (u : Value), BindsTo s fd ⟨[u], []⟩ [("_law_script", u)]) ∧ ∀ base : Heap, (K w.params).In base → base.Ns mainGlobals mg → FnOk l.prog w (K w.params) mg base CX0 7 fa fd ["_law_script"] (spLaw (K w.params))) :
    PySem.W.WalkO q loose XP YP l.row.toRowW d [] (fun f vs => PySem.call f vs) :=
  L2.walk_of (n := 63) (k := 7) (x := "_law_script") (CX := fun _ => CX0) (sp := fun w => spLaw (K w.params)) hn (by decide) hdf ⟨rfl, by decide, by decide⟩ hY F (fun _ _ a ns hl _ hS => ⟨a, ns, rfl, hS, hl, fun _ => rfl⟩) fun _ _ _ _ _ z => z
end B46

set_option Elab.async false
set_option linter.all false
open PySem PySem.W PyProof.Rows
set_option maxRecDepth 100000 in
set_option maxHeartbeats 0 in
theorem PySem.Challenge.cw_mapwebs_k46_whole_pairings_and_bans_judg_holds : PySem.Challenge.rw_mapwebs_k46_whole_pairings_and_bans_judg.Holds := by
  w_on; o_law; k_head; (case hw => w_witness2)
  k_fill
  refine B46.walk (l := PySem.Challenge.rw_mapwebs_k46_whole_pairings_and_bans_judg) rfl rfl (fun w h Y => PySem.W.kIn_of Y) ?F
  case F =>
    intro w mg fa h KX G hmg
    refine' B46.all_mk KX G hmg ?a1 ?l1 ?c1 ?k1 ?a2 ?l2 ?c2 ?k2 ?a3 ?l3 ?c3 ?k3 ?a12 ?l12 ?c12 ?k12 ?a13 ?l13 ?c13 ?k13 ?a14 ?l14 ?c14 ?k14 ?a15 ?l15 ?c15 ?k15 ?a16 ?l16 ?c16 ?k16 ?a17 ?l17 ?c17 ?k17 ?a18 ?l18 ?c18 ?k18 ?a19 ?l19 ?c19 ?k19 ?a20 ?l20 ?c20 ?k20 ?a21 ?l21 ?c21 ?k21 ?a23 ?l23 ?c23 ?k23 ?a24 ?l24 ?c24 ?k24 ?a25 ?l25 ?c25 ?k25 ?a26 ?l26 ?c26 ?k26 ?a27 ?l27 ?c27 ?k27 ?a32 ?l32 ?c32 ?k32 ?a33 ?l33 ?c33 ?k33 ?a34 ?l34 ?c34 ?k34 ?a35 ?l35 ?c35 ?k35 ?a36 ?l36 ?c36 ?k36 ?a37 ?l37 ?c37 ?k37 ?a38 ?l38 ?c38 ?k38 ?a39 ?l39 ?c39 ?k39 ?a40 ?l40 ?c40 ?k40 ?a41 ?l41 ?c41 ?k41 ?a42 ?l42 ?c42 ?k42 ?a43 ?l43 ?c43 ?k43 ?hn ?ht ?vMOST_BARS ?vMOST_MOMENT ?vMOST_APART ?zlen ?zint ?zbool ?zisinstance ?ztuple ?zall ?zenumerate ?zlist ?zrange ?zmin ?zmax ?zsorted ?zset ?zstr ?zabs ?zValueError ?zzip ?zany
    (case a1 => k_is)
    (case l1 => k_is)
    (case c1 => k_is)
    (case k1 => k_is)
    (case a2 => k_is)
    (case l2 => k_is)
    (case c2 => k_is)
    (case k2 => k_is)
    (case a3 => k_is)
    (case l3 => k_is)
    (case c3 => k_is)
    (case k3 => k_is)
    (case a12 => k_is)
    (case l12 => k_is)
    (case c12 => k_is)
    (case k12 => k_is)
    (case a13 => k_is)
    (case l13 => k_is)
    (case c13 => k_is)
    (case k13 => k_is)
    (case a14 => k_is)
    (case l14 => k_is)
    (case c14 => k_is)
    (case k14 => k_is)
    (case a15 => k_is)
    (case l15 => k_is)
    (case c15 => k_is)
    (case k15 => k_is)
    (case a16 => k_is)
    (case l16 => k_is)
    (case c16 => k_is)
    (case k16 => k_is)
    (case a17 => k_is)
    (case l17 => k_is)
    (case c17 => k_is)
    (case k17 => k_is)
    (case a18 => k_is)
    (case l18 => k_is)
    (case c18 => k_is)
    (case k18 => k_is)
    (case a19 => k_is)
    (case l19 => k_is)
    (case c19 => k_is)
    (case k19 => k_is)
    (case a20 => k_is)
    (case l20 => k_is)
    (case c20 => k_is)
    (case k20 => k_is)
    (case a21 => k_is)
    (case l21 => k_is)
    (case c21 => k_is)
    (case k21 => k_is)
    (case a23 => k_is)
    (case l23 => k_is)
    (case c23 => k_is)
    (case k23 => k_is)
    (case a24 => k_is)
    (case l24 => k_is)
    (case c24 => k_is)
    (case k24 => k_is)
    (case a25 => k_is)
    (case l25 => k_is)
    (case c25 => k_is)
    (case k25 => k_is)
    (case a26 => k_is)
    (case l26 => k_is)
    (case c26 => k_is)
    (case k26 => k_is)
    (case a27 => k_is)
    (case l27 => k_is)
    (case c27 => k_is)
    (case k27 => k_is)
    (case a32 => k_is)
    (case l32 => k_is)
    (case c32 => k_is)
    (case k32 => k_is)
    (case a33 => k_is)
    (case l33 => k_is)
    (case c33 => k_is)
    (case k33 => k_is)
    (case a34 => k_is)
    (case l34 => k_is)
    (case c34 => k_is)
    (case k34 => k_is)
    (case a35 => k_is)
    (case l35 => k_is)
    (case c35 => k_is)
    (case k35 => k_is)
    (case a36 => k_is)
    (case l36 => k_is)
    (case c36 => k_is)
    (case k36 => k_is)
    (case a37 => k_is)
    (case l37 => k_is)
    (case c37 => k_is)
    (case k37 => k_is)
    (case a38 => k_is)
    (case l38 => k_is)
    (case c38 => k_is)
    (case k38 => k_is)
    (case a39 => k_is)
    (case l39 => k_is)
    (case c39 => k_is)
    (case k39 => k_is)
    (case a40 => k_is)
    (case l40 => k_is)
    (case c40 => k_is)
    (case k40 => k_is)
    (case a41 => k_is)
    (case l41 => k_is)
    (case c41 => k_is)
    (case k41 => k_is)
    (case a42 => k_is)
    (case l42 => k_is)
    (case c42 => k_is)
    (case k42 => k_is)
    (case a43 => k_is)
    (case l43 => k_is)
    (case c43 => k_is)
    (case k43 => k_is)
    (case hn => k_is)
    (case ht => k_is)
    (case vMOST_BARS => k_is)
    (case vMOST_MOMENT => k_is)
    (case vMOST_APART => k_is)
    (case zlen => k_is)
    (case zint => k_is)
    (case zbool => k_is)
    (case zisinstance => k_is)
    (case ztuple => k_is)
    (case zall => k_is)
    (case zenumerate => k_is)
    (case zlist => k_is)
    (case zrange => k_is)
    (case zmin => k_is)
    (case zmax => k_is)
    (case zsorted => k_is)
    (case zset => k_is)
    (case zstr => k_is)
    (case zabs => k_is)
    (case zValueError => k_is)
    (case zzip => k_is)
    (case zany => k_is)
