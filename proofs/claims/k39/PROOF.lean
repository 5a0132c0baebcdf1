import PyProof.Rows.All
import Wide.All
import OpenK.AllK
import Wide.FinOn
import HandS.ForMost
import HandS.Codes
import PySem.Challenge.RW_mapwebs_k39_towers_judged
import HandS.IsInst
import HandS.OwnEq
import KE.GoesMore
import HandS.Iter
import HandS.ForExc
import HandS.ExcInit
import HandS.ExcField
import HandS.ExcValue
import KE.KExcIs
import HandS.TupAny
import HandS.Zip
import HandS.Style
import HandS.TryMany
import PyProof.P3In
import HandS.Deep
set_option Elab.async false
set_option linter.all false
set_option maxRecDepth 100000
set_option maxHeartbeats 4000000
set_option pp.maxSteps 60
namespace T39
open PySem L2
def top (i : Nat) : Stmt := PySem.Challenge.pw_mapwebs_k39_towers_judged.main.body.getD i (.Pass ⟨0, 0, 0, 0⟩)
abbrev sBag : Stmt := top 18
abbrev sPick : Stmt := top 19
abbrev sSome : Stmt := top 20
theorem upd_upd {H : Hp} {a : Addr} {o u : HO} : upd (upd H a o) a u = upd H a u := by
  funext b
  by_cases h : b = a
  · rw [h, upd_same, upd_same]
  · rw [upd_ne h, upd_ne h, upd_ne h]
/-- the bag stands at a, its great numbers at c -/
def BagAt (H : Hp) (a c : Addr) : Prop := ∃ (ns : List Int) (z m n : Int), H a = some (.lst [.ref c, .int z, .int m, .int n]) ∧ H c = some (.lst (ns.map V.int))
theorem BagAt.neq {H : Hp} {a c : Addr} (x : BagAt H a c) : c ≠ a := by
  obtain ⟨ns, z, m, n, h1, h2⟩ := x
  exact ne_of h2 h1 (by intro q; cases ns <;> cases q)
/-- a step that changes nothing but the bag, and makes new things -/
structure Go (a c : Addr) (H H' : Hp) : Prop where
  bag : BagAt H' a c
  keep : ∀ b o, b ≠ a → b ≠ c → H b = some o → H' b = some o
theorem Go.trans {a c : Addr} {H H1 H2 : Hp} (x : Go a c H H1) (y : Go a c H1 H2) : Go a c H H2 := ⟨y.1, fun b o n m e => y.2 b o n m (x.2 b o n m e)⟩
theorem Go.refl {a c : Addr} {H : Hp} (x : BagAt H a c) : Go a c H H := ⟨x, fun _ _ _ _ e => e⟩
theorem BagAt.ne {H : Hp} {a c : Addr} (x : BagAt H a c) {b : Addr} (h : H b = none) : b ≠ a ∧ b ≠ c := by
  obtain ⟨ns, z, m, n, h1, h2⟩ := x
  exact ⟨(ne_of_none h1 h).symm, (ne_of_none h2 h).symm⟩
theorem Go.of_ext {a c : Addr} {H H' : Hp} (x : BagAt H a c) (e : ∀ b o, H b = some o → H' b = some o) : Go a c H H' := by
  obtain ⟨ns, z, m, n, h1, h2⟩ := x
  exact ⟨⟨ns, z, m, n, e _ _ h1, e _ _ h2⟩, fun b o _ _ h => e b o h⟩
theorem Go.new {a c : Addr} {H : Hp} (x : BagAt H a c) {b : Addr} {o : HO} (h : H b = none) : Go a c H (upd H b o) := Go.of_ext x fun d u e => by rw [upd_ne (ne_of_none e h)]; exact e
/-- a store at a thing that is new since -/
theorem Go.put {a c d : Addr} {H H' : Hp} {o : HO} (p : BagAt H a c) (g : Go a c H H') (nd : H d = none) : Go a c H (upd H' d o) := by
  obtain ⟨h1, h2⟩ := p.ne nd
  obtain ⟨ns, z, m, n, h3, h4⟩ := g.1
  exact ⟨⟨ns, z, m, n, by rw [upd_ne h1.symm]; exact h3, by rw [upd_ne h2.symm]; exact h4⟩, fun b o' nb nc hb => by rw [upd_ne (ne_of_none hb nd)]; exact g.2 b o' nb nc hb⟩
theorem bag_no {H : Hp} {a c b : Addr} {o : HO} (p : BagAt H a c) (h : H b = some o) (no : ∀ xs, o ≠ .lst xs) : b ≠ a ∧ b ≠ c := by
  obtain ⟨ns, z, m, n, h1, h2⟩ := p
  refine ⟨fun e => ?_, fun e => ?_⟩
  · rw [e, h1] at h
    cases h
    exact no _ rfl
  · rw [e, h2] at h
    cases h
    exact no _ rfl
theorem Go.tup {a c b : Addr} {H H' : Hp} {xs : List V} (p : BagAt H a c) (g : Go a c H H') (h : H b = some (.tup xs)) : H' b = some (.tup xs) := g.2 _ _ (bag_no p h fun _ z => nomatch z).1 (bag_no p h fun _ z => nomatch z).2 h
def spBag (K : PySem.W.Frag) : Sp := fun vs H Q _ => ∃ (s : Addr) (ns : List Int), vs = [.ref s] ∧ SqL K H s (ns.map V.int) ∧ ns.length ≤ 63 ∧ ∀ (r c : Addr) (H' : Hp), (∀ b o, H b = some o → H' b = some o) → BagAt H' r c → Q (.ref r) H'
def spPick : Sp := fun vs H Q _ => ∃ (a c : Addr) (m : Int), vs = [.ref a, .int m] ∧ BagAt H a c ∧ 0 < m ∧ m < 1000000 ∧ ∀ (r : Int) (H' : Hp), 0 ≤ r → r < m → Go a c H H' → Q (.int r) H'
def spSome : Sp := fun vs H Q _ => ∃ (a c l : Addr) (xs : List V), vs = [.ref a, .ref l] ∧ BagAt H a c ∧ l ≠ a ∧ l ≠ c ∧ H l = some (.lst xs) ∧ xs ≠ [] ∧ xs.length ≤ 1000 ∧ ∀ (x : V) (H' : Hp), x ∈ xs → Go a c H H' → Q x H'
structure Bl (mg : Str → Option Value) : Prop where
  len : mg "len" = none
  int : mg "int" = none
theorem tyes_in {σ : L2.St} {H : Hp} {te : TE} {R : V → Hp → Prop} {N : Hp → Prop} (h : te σ H R) : tYes σ H (fun b H3 => if b = true then te σ H3 R else N H3) := by
  show (if true = true then te σ H R else N H)
  rw [if_pos rfl]
  exact h
section
variable {P : Program} {w : World} {K : PySem.W.Frag} {mg : Str → Option Value} {base : Heap}
theorem scPick : FnScope ["_law_bag_here", "_law_many", "_law_number"] ["_law_bag_here", "_law_many"] (defScope sPick) := ⟨rfl, rfl, rfl, by decide +kernel, rfl, by decide +kernel, by decide +kernel⟩
theorem seq0 {n : Nat} (h : 0 < n) : seqIndex? 0 n = some 0 := by
  unfold seqIndex?
  simp only [show ¬ ((0 : Int) < 0) by decide, if_false]
  rw [if_pos (by simp; omega)]
  rfl
theorem ix0 {n : Nat} (h : 0 < n) : ixN n 0 = some 0 := by
  unfold ixN
  rw [if_pos (by decide), if_pos (by omega)]
  rfl
theorem ok_pick {f : Addr} {fd : FuncData} (F : Fun K "_law_pick" "_law_pick" sPick f fd) (T : Bl mg) : FnOk P w K mg base CX0 1 f fd ["_law_bag_here", "_law_many"] spPick := by
  refine F.ok scPick (fun vs H Q E h => ?_) (fun cdv A outer s H vs Q E hr h => ?_)
  · obtain ⟨a, c, m, rfl, _⟩ := h
    rfl
  · obtain ⟨a, c, m, rfl, bag, hm, hm2, k⟩ := h
    obtain ⟨ns, z, ln, n, h1, h2⟩ := id bag
    have hca := bag.neq
    refine ⟨_, pss_cons (ps_if (pt_cmpR op_eq (pe_ix ix_list (pv 0) pe_int (fun _ _ => rfl)) pe_int (nomark _)) (pss_one (ps_ret pe_int)) pss_nil)
      (pss_cons (ps_if (pt_cmpR op_gt (pe_callB call_len_seq (by rfl) T.len PySem.boot_len (pa_cons (pe_ix ix_list (pv 0) pe_int (fun _ _ => rfl)) pa_nil)) pe_int (nomark _))
        (pss_cons (ps_set (i := 2) scPick.nd rfl (Or.inl rfl) (pe_ix ix_list (pe_ix ix_list (pv 0) pe_int (fun _ _ => rfl)) pe_int (fun _ _ => rfl)))
        (pss_cons (ps_asg (pe_op op_fdiv (pv 2) (pv 1)) (pg_sub (pe_ix ix_list (pv 0) pe_int (fun _ _ => rfl)) pe_int set_list))
        (pss_cons (ps_if (pt_cmpR op_lt (pv 2) (pv 1) (nomark _)) (pss_one (ps_expr (pe_bm PySem.F.plainAttrs_list PySem.F.slot_list_pop PySem.F.type_list_pop mt_popAt (pe_ix ix_list (pv 0) pe_int (fun _ _ => rfl)) (pa_cons pe_int pa_nil)))) pss_nil)
        (pss_one (ps_ret (pe_op op_mod (pe_callTy call_int1 (by rfl) T.int (by decide +kernel) (pa_cons (pv 2) pa_nil)) (pv 1))))))) pss_nil)
      (pss_cons (ps_asg (pe_op op_add (pe_ix ix_list (pv 0) pe_int (fun _ _ => rfl)) pe_int) (pg_sub (pv 0) pe_int set_list))
      (pss_cons (ps_set (i := 2) scPick.nd rfl (Or.inl rfl) (pe_op op_mod (pe_callTy call_int1 (by rfl) T.int (by decide +kernel) (pa_cons (pe_op op_add (pe_op op_mul (pe_op op_add (pe_ix ix_list (pv 0) pe_int (fun _ _ => rfl)) (pe_op op_mul pe_int (pe_ix ix_list (pv 0) pe_int (fun _ _ => rfl)))) pe_int) pe_int) pa_nil)) pe_int))
      (pss_cons (ps_set (i := 2) scPick.nd rfl (Or.inl rfl) (pe_op op_mod (pe_callTy call_int1 (by rfl) T.int (by decide +kernel) (pa_cons (pe_op op_add (pe_op op_mul (pv 2) (pe_op op_add (pe_op op_fdiv (pv 2) pe_int) pe_int)) (pe_ix ix_list (pv 0) pe_int (fun _ _ => rfl))) pa_nil)) pe_int))
      (pss_cons (ps_asg (pe_op op_mod (pe_callTy call_int1 (by rfl) T.int (by decide +kernel) (pa_cons (pe_op op_add (pe_ix ix_list (pv 0) pe_int (fun _ _ => rfl)) (pv 2)) pa_nil)) pe_int) (pg_sub (pv 0) pe_int set_list))
      (pss_one (ps_ret (pe_op op_mod (pe_callTy call_int1 (by rfl) T.int (by decide +kernel) (pa_cons (pe_op op_fdiv (pv 2) pe_int) pa_nil)) (pv 1))))))))), ?_⟩
    refine ⟨_, rfl, _, _, _, _, rfl, rfl, SqL.of h1, rfl, rfl, _, rfl, ?_⟩
    refine ite2 (fun _ => k 0 H (by decide) hm (Go.refl bag)) (fun _ => ?_)
    refine ⟨_, rfl, _, _, _, _, rfl, rfl, SqL.of h1, rfl, c, _, rfl, .inl (SqL.of h2), _, _, rfl, rfl, _, rfl, ?_⟩
    refine ite2 (fun e => ?_) (fun _ => ?_)
    · have pos : 0 < ns.length := by
        have e' := of_decide_eq_true e
        rw [List.length_map] at e'
        omega
      match ns, pos with
      | x :: ns, _ =>
        refine ⟨_, rfl, _, _, _, _, rfl, rfl, SqL.of h1, rfl, c, _, 0, .int x, rfl, rfl, SqL.of h2, at_of (j := 0) rfl rfl, ?_⟩
        refine ⟨_, rfl, _, rfl, _, _, rfl, rfl, ⟨hm, by omega⟩, _, rfl, _, _, _, _, rfl, rfl, SqL.of h1, rfl, c, _, 0, 0, rfl, rfl, h2, ix0 (Nat.succ_pos _), ?_⟩
        have e1 : (List.map V.int (x :: ns)).set 0 (V.int (x / m)) = (x / m :: ns).map V.int := rfl
        have ha1 : (upd H c (.lst ((x / m :: ns).map V.int))) a = some (.lst [.ref c, .int z, .int ln, .int n]) := by rw [upd_ne hca.symm]; exact h1
        refine ⟨_, rfl, _, rfl, _, _, rfl, rfl, _, rfl, ?_⟩
        have fin : ∀ ys : List Int, Go a c H (upd H c (.lst (ys.map V.int))) := fun ys => ⟨⟨ys, z, ln, n, by rw [upd_ne hca.symm]; exact h1, upd_same⟩, fun b o _ nc hb => by rw [upd_ne nc]; exact hb⟩
        refine ite2 (fun _ => ?_) (fun _ => ?_)
        · refine ⟨_, rfl, _, _, _, _, rfl, rfl, SqL.of ha1, rfl, .inl ⟨rfl, _, SqL.of upd_same⟩, c, _, 0, 0, .int (x / m), rfl, rfl, upd_same, by decide, by decide, seq0 (Nat.succ_pos _), rfl, ?_⟩
          refine ⟨_, rfl, .inl ⟨_, rfl, _, rfl, _, _, rfl, rfl, hm, ?_⟩⟩
          rw [upd_upd]
          exact k _ _ (Int.emod_nonneg _ (by omega)) (Int.emod_lt_of_pos _ hm) (fin ns)
        · refine ⟨_, rfl, .inl ⟨_, rfl, _, rfl, _, _, rfl, rfl, hm, ?_⟩⟩
          exact k _ _ (Int.emod_nonneg _ (by omega)) (Int.emod_lt_of_pos _ hm) (fin (x / m :: ns))
    · have fin : ∀ z' n' : Int, Go a c H (upd H a (.lst [.ref c, .int z', .int ln, .int n'])) := fun z' n' => ⟨⟨ns, z', ln, n', upd_same, by rw [upd_ne hca]; exact h2⟩, fun b o na _ hb => by rw [upd_ne na]; exact hb⟩
      refine ⟨_, rfl, _, _, _, _, rfl, rfl, SqL.of h1, rfl, _, _, rfl, rfl, _, rfl, _, _, _, _, rfl, rfl, h1, rfl, ?_⟩
      refine ⟨_, rfl, _, _, _, _, rfl, rfl, SqL.of upd_same, rfl, _, rfl, _, _, _, _, rfl, rfl, SqL.of upd_same, rfl, _, _, rfl, rfl, .inl (by decide), _, _, rfl, rfl, _, _, rfl, rfl, .inr (by decide), _, _, rfl, rfl, .inl ⟨_, rfl, _, _, rfl, rfl, (by show (0 : Int) < 2147483647; decide), ?_⟩⟩
      have b1 := Int.emod_nonneg ((z + 7919 * (n + 1)) * 48271 + 11) (show (2147483647 : Int) ≠ 0 by decide)
      have b2 := Int.emod_lt_of_pos ((z + 7919 * (n + 1)) * 48271 + 11) (show (0 : Int) < 2147483647 by decide)
      refine ⟨_, rfl, _, rfl, _, _, rfl, rfl, ⟨by decide, by decide⟩, _, _, rfl, rfl, _, _, rfl, rfl, .inl ⟨by omega, by omega⟩, _, rfl, _, _, _, _, rfl, rfl, SqL.of upd_same, rfl, _, _, rfl, rfl, .inl ⟨_, rfl, _, _, rfl, rfl, (by show (0 : Int) < 2147483399; decide), ?_⟩⟩
      generalize ((z + 7919 * (n + 1)) * 48271 + 11) % 2147483647 = y1 at *
      refine ⟨_, rfl, _, _, _, _, rfl, rfl, SqL.of upd_same, rfl, _, rfl, _, _, rfl, rfl, .inl ⟨_, rfl, _, _, rfl, rfl, (by show (0 : Int) < 2147483629; decide), _, rfl, _, _, _, _, rfl, rfl, upd_same, rfl, ?_⟩⟩
      refine ⟨_, rfl, _, _, rfl, rfl, ⟨by decide, by decide⟩, .inl ⟨_, rfl, _, rfl, _, _, rfl, rfl, hm, ?_⟩⟩
      rw [upd_upd]
      exact k _ _ (Int.emod_nonneg _ (by omega)) (Int.emod_lt_of_pos _ hm) (fin _ _)
theorem scSome : FnScope ["_law_bag_here", "_law_things"] ["_law_bag_here", "_law_things"] (defScope sSome) := ⟨rfl, rfl, rfl, by decide +kernel, rfl, by decide +kernel, by decide +kernel⟩
theorem ok_some {f : Addr} {fd : FuncData} (F : Fun K "_law_some" "_law_some" sSome f fd) (T : Bl mg) (cD : C8.Cal P w K mg base 1 "_law_pick" spPick []) : FnOk P w K mg base CX0 2 f fd ["_law_bag_here", "_law_things"] spSome := by
  refine F.ok scSome (fun vs H Q E h => ?_) (fun cdv A outer s H vs Q E hr h => ?_)
  · obtain ⟨a, c, l, xs, rfl, _⟩ := h
    rfl
  · obtain ⟨a, c, l, xs, rfl, bag, na, nc, hl, ne, len, k⟩ := h
    refine ⟨_, pss_one (ps_ret (pe_ix ix_list (pv 1) (C8.pe_c cD hr (by decide) (by rfl) (pa_cons (pv 0) (pa_cons (pe_callB call_len_seq (by rfl) T.len PySem.boot_len (pa_cons (pv 1) pa_nil)) pa_nil))) (fun _ _ => rfl))), ?_⟩
    have pos : 0 < xs.length := List.length_pos_iff.mpr ne
    refine ⟨_, rfl, _, rfl, _, rfl, l, xs, rfl, .inl (SqL.of hl), a, c, _, rfl, bag, by omega, by omega, fun r H' h0 hlt go => ?_⟩
    have lt : r.toNat < xs.length := by omega
    refine ⟨l, xs, r, xs[r.toNat], rfl, rfl, SqL.of (go.2 _ _ na nc hl), at_of (j := r.toNat) (by omega) (List.getElem?_eq_getElem lt), ?_⟩
    exact k _ _ (List.getElem_mem lt) go
end
end T39

set_option Elab.async false
set_option linter.all false
set_option maxRecDepth 100000
set_option maxHeartbeats 4000000
set_option pp.maxSteps 60
namespace T39
open PySem L2
abbrev sInteger : Stmt := top 1
abbrev sNumber : Stmt := top 2
/-- built-ins that the text leaves as they are -/
structure Gb (mg : Str → Option Value) : Prop where
  len : mg "len" = none
  int : mg "int" = none
  bool : mg "bool" = none
  isi : mg "isinstance" = none
  tup : mg "tuple" = none
  all : mg "all" = none
  enum : mg "enumerate" = none
  list : mg "list" = none
  rng : mg "range" = none
  min : mg "min" = none
  max : mg "max" = none
  sorted : mg "sorted" = none
  set : mg "set" = none
  str : mg "str" = none
  abs : mg "abs" = none
  ve : mg "ValueError" = none
/-- what is expected of a caller of a plain def -/
abbrev Cal := @C8.Cal
def isI : V → Bool | .int _ => true | _ => false
def isB : V → Bool | .bl _ => true | _ => false
/-- a thing, as isinstance sees it; of a tuple also its items, n deep -/
def Th (K : PySem.W.Frag) (H : Hp) : Nat → V → Prop
  | n, x => ∃ t, TyX K H x t ∧ PySem.W.kitOne K t (.type "int") = some (isI x || isB x) ∧ PySem.W.kitOne K t (.type "bool") = some (isB x) ∧
    ((PySem.W.kitOne K t (.type "tuple") = some false ∧ ∀ a, x = .ref a → ∃ o, H a = some o ∧ ∀ xs, o ≠ .tup xs) ∨ (PySem.W.kitOne K t (.type "tuple") = some true ∧ ∃ a xs, x = .ref a ∧ H a = some (.tup xs) ∧
      match n with | 0 => True | m + 1 => ∀ y ∈ xs, Th K H m y))
theorem Th.zero {K : PySem.W.Frag} {H : Hp} {n : Nat} {x : V} (h : Th K H n x) : Th K H 0 x := by
  unfold Th at h ⊢
  obtain ⟨t, a, b, c, d⟩ := h
  refine ⟨t, a, b, c, ?_⟩
  rcases d with d | ⟨d, a, xs, e, f, _⟩
  · exact .inl d
  · exact .inr ⟨d, a, xs, e, f, True.intro⟩
def numV (m : Int) : V → Bool
  | .int i => decide (0 ≤ i) && decide (i ≤ m)
  | _ => false
theorem numV_true {m : Int} {x : V} : numV m x = true ↔ ∃ i, x = .int i ∧ 0 ≤ i ∧ i ≤ m := by
  cases x <;> simp [numV]
theorem TyOf.ext {K : PySem.W.Frag} {H H' : Hp} {x : V} {t : Value} (h : TyOf K H x t) (e : Ext H H') : TyOf K H' x t := by
  cases h with
  | non => exact .non
  | bl x => exact .bl x
  | int i => exact .int i
  | str x => exact .str x
  | flt x => exact .flt x
  | lst h => exact .lst (e _ _ h)
  | frz h => exact .frz (e _ _ h)
  | tup h => exact .tup (e _ _ h)
  | dK h => exact .dK (e _ _ h)
  | dT h => exact .dT (e _ _ h)
  | ins h c a b d f => exact .ins (e _ _ h) c a b d f
theorem TyX.ext {K : PySem.W.Frag} {H H' : Hp} {x : V} {t : Value} (h : TyX K H x t) (e : Ext H H') : TyX K H' x t := by
  cases h with
  | base h => exact .base (TyOf.ext h e)
  | byt b => exact .byt b
  | set h => exact .set (e _ _ h)
  | kList h c => exact .kList h c
  | kTuple h c => exact .kTuple h c
  | kDict h c => exact .kDict h c
  | fTuple h => exact .fTuple (e _ _ h)
  | fDict h => exact .fDict (e _ _ h)
theorem Th.ext {K : PySem.W.Frag} {H H' : Hp} (e : Ext H H') : ∀ {n : Nat} {x : V}, Th K H n x → Th K H' n x
  | 0, x, h => by
    unfold Th at h ⊢
    obtain ⟨t, a, b, c, d⟩ := h
    refine ⟨t, TyX.ext a e, b, c, ?_⟩
    rcases d with ⟨d, f⟩ | ⟨d, a, xs, g, f, _⟩
    · exact .inl ⟨d, fun a q => let ⟨o, h1, h2⟩ := f a q; ⟨o, e _ _ h1, h2⟩⟩
    · exact .inr ⟨d, a, xs, g, e _ _ f, True.intro⟩
  | n + 1, x, h => by
    unfold Th at h ⊢
    obtain ⟨t, a, b, c, d⟩ := h
    refine ⟨t, TyX.ext a e, b, c, ?_⟩
    rcases d with ⟨d, f⟩ | ⟨d, a, xs, g, f, i⟩
    · exact .inl ⟨d, fun a q => let ⟨o, h1, h2⟩ := f a q; ⟨o, e _ _ h1, h2⟩⟩
    · exact .inr ⟨d, a, xs, g, e _ _ f, fun y hy => Th.ext e (i y hy)⟩
def spInteger (K : PySem.W.Frag) : Sp := fun vs H Q _ => ∃ x : V, vs = [x] ∧ Th K H 0 x ∧ Q (.bl (isI x)) H
def spNumber (K : PySem.W.Frag) : Sp := fun vs H Q _ => ∃ (m : Int) (x : V), vs = [.int m, x] ∧ Th K H 0 x ∧ Q (.bl (numV m x)) H
section
variable {P : Program} {w : World} {K : PySem.W.Frag} {mg : Str → Option Value} {base : Heap}
theorem scInt : FnScope ["thing"] ["thing"] (defScope sInteger) := ⟨rfl, rfl, rfl, by decide +kernel, rfl, by decide +kernel, by decide +kernel⟩
theorem ok_integer {f : Addr} {fd : FuncData} (F : L2.Fun K "is_integer" "is_integer" sInteger f fd) (T : Gb mg) : FnOk P w K mg base CX0 1 f fd ["thing"] (spInteger K) := by
  refine F.ok scInt (fun vs H Q E h => ?_) (fun cdv A outer s H vs Q E hr h => ?_)
  · obtain ⟨x, rfl, _⟩ := h
    rfl
  · obtain ⟨x, rfl, th, k⟩ := h
    unfold Th at th
    obtain ⟨t, ty, ki, kb, _⟩ := th
    refine ⟨_, pss_one (ps_ret (pe_and (pe_callB call_isi (by rfl) T.isi (by decide +kernel) (pa_cons (pv 0) (pa_cons (pe_bltn (v := .ty "int") (by rfl) T.int (by decide +kernel) rfl) pa_nil)))
      (pe_one (pe_not (pe_callB call_isi (by rfl) T.isi (by decide +kernel) (pa_cons (pv 0) (pa_cons (pe_bltn (v := .ty "bool") (by rfl) T.bool (by decide +kernel) rfl) pa_nil))))))), ?_⟩
    refine ⟨_, rfl, x, .ty "int", t, .type "int", _, rfl, .ty _, ty, ki, _, rfl, ?_⟩
    cases x <;> first
      | exact iteF k
      | (refine iteT ⟨_, rfl, _, .ty "bool", t, .type "bool", _, rfl, .ty _, ty, kb, _, rfl, ?_⟩; exact k)
theorem scNum : FnScope ["most", "thing"] ["most", "thing"] (defScope sNumber) := ⟨rfl, rfl, rfl, by decide +kernel, rfl, by decide +kernel, by decide +kernel⟩
theorem ok_number {f : Addr} {fd : FuncData} (F : L2.Fun K "is_number" "is_number" sNumber f fd) (cI : Cal P w K mg base 1 "is_integer" (spInteger K) []) : FnOk P w K mg base CX0 2 f fd ["most", "thing"] (spNumber K) := by
  refine F.ok scNum (fun vs H Q E h => ?_) (fun cdv A outer s H vs Q E hr h => ?_)
  · obtain ⟨m, x, rfl, _⟩ := h
    rfl
  · obtain ⟨m, x, rfl, th, k⟩ := h
    refine ⟨_, pss_one (ps_ret (pe_and (C8.pe_c cI hr (by decide) (by rfl) (pa_cons (pv 1) pa_nil)) (pe_one (pe_chain op_le op_le pe_int (pv 1) (pv 0))))), ?_⟩
    refine ⟨_, rfl, x, rfl, th, _, rfl, ?_⟩
    cases x with
    | int i =>
      refine iteT ⟨_, rfl, _, _, rfl, rfl, _, rfl, ?_⟩
      by_cases h0 : (0 : Int) ≤ i
      · rw [decide_eq_true h0]
        refine iteT ⟨_, rfl, _, _, rfl, rfl, ?_⟩
        have e : numV m (.int i) = decide (i ≤ m) := by simp [numV, h0]
        rw [e] at k
        exact k
      · rw [decide_eq_false h0]
        have e : numV m (.int i) = false := by simp [numV, h0]
        rw [e] at k
        exact iteF k
    | _ => exact iteF k
end
end T39

set_option Elab.async false
set_option linter.all false
set_option maxRecDepth 100000
set_option maxHeartbeats 4000000
/-! enumerate over a tuple that is tracked: the iterator (by the library's WalksT.enumerateD over Draws.tuple), the rule of the layer, the loop. -/
namespace T39
open PySem L2 PyProof.Rows
open PySem.Sem (wp)
theorem en_new (l : Addr) (us : Array Value) (n : Nat) (dd : Option Addr) (sl : Array (Option Value)) :
    Meets (Builtin.«enumerate.__new__» ⟨[.type "enumerate", .ref l], []⟩) fun _ R s => s.heap.get? l = some { cls := .type "tuple", dict := dd, data := .seq us n, slots := sl } ∧
      R (.ok (.ret (.ref (s.heap.objs.size + 1)))) { s with heap := (s.heap.push { cls := .type "tuple_iterator", data := .fields #[.ref l, .int 0 0] }).push { cls := .type "enumerate", data := .fields #[.none, .bool false, .ref s.heap.objs.size, rawInt 0, .none, .none] } } := by
  refine .of_wp fun prog w A R s hh => ?_
  rcases s with ⟨hp, gs, dr, tk, os⟩
  rcases hh with ⟨there, hR⟩
  have isT : Heap.IsTuple (Shared.heap ⟨hp, gs, dr, tk, os⟩) l us := ⟨_, there, rfl, n, rfl⟩
  have same := sub_enumerate
  have big : (hp.push { cls := .type "tuple_iterator", data := .fields #[.ref l, .int 0 0] }).objs.size = hp.objs.size + 1 := Heap.size_push ..
  have hR' : R (.ok (.ret (.ref (hp.push { cls := .type "tuple_iterator", data := .fields #[.ref l, .int 0 0] }).objs.size))) ⟨(hp.push { cls := .type "tuple_iterator", data := .fields #[.ref l, .int 0 0] }).push { cls := .type "enumerate", data := .fields #[.none, .bool false, .ref hp.objs.size, rawInt 0, .none, .none] }, gs, dr, tk, os⟩ := by
    rw [big]; exact hR
  wp_walk using AutoSeq1.wpAny_loadPart' there
  refine wpAny_stack_any fun st => wpAny_pure ?_
  split
  · rename_i c _ _ _ _ _
    cases (c == Value.type "enumerate") <;>
    · wp_walk using AutoSeq1.wpAny_loadPart' there, wpAny_pyIter_tuple isT
      exact ⟨_, rfl, hR'⟩
  · wp_walk using AutoSeq1.wpAny_loadPart' there, wpAny_pyIter_tuple isT
    exact ⟨_, rfl, hR'⟩
theorem call_en {prog : Program} {w : World} {A : Around} {E : Value → Shared → Prop} {s : Shared} {l : Addr} {us : Array Value} {Q : Value → Shared → Prop} (isT : s.heap.IsTuple l us)
    (h : ∀ h' : Heap, IsEnum h' (s.heap.objs.size + 1) s.heap.objs.size 0 .none → h'.IsTupleIter s.heap.objs.size l 0 → (∀ b o, s.heap.get? b = some o → h'.get? b = some o) → Q (.ref (s.heap.objs.size + 1)) { s with heap := h' }) :
    wpAny (model prog w) A (call (.type "enumerate") [.ref l]) Q E s := by
  rcases isT with ⟨⟨c, dd, dt, sl⟩, there, hc, n, hd⟩
  obtain rfl : c = .type "tuple" := hc
  obtain rfl : dt = .seq us n := hd
  refine callType_new F.called_enumerate (by decide) (F.typeCall_enumerate_1 _) (F.newCall_enumerate_1 _) (fun obj => F.args_object_init_2 obj _) F.entry_enumerate_new (en_new l us n dd sl) ⟨there, ?_⟩
  have big : (s.heap.push { cls := .type "tuple_iterator", data := .fields #[.ref l, .int 0 0] }).objs.size = s.heap.objs.size + 1 := Heap.size_push ..
  have en : IsEnum ((s.heap.push { cls := .type "tuple_iterator", data := .fields #[.ref l, .int 0 0] }).push { cls := .type "enumerate", data := .fields #[.none, .bool false, .ref s.heap.objs.size, rawInt 0, .none, .none] }) (s.heap.objs.size + 1) s.heap.objs.size 0 .none := by
    rw [← big]
    exact Heap.get?_push_size _ rfl
  exact ⟨⟨_, en, rfl⟩, h _ en ⟨_, Heap.get?_push_of_some _ (Heap.get?_push_size _ rfl), rfl, rfl⟩ fun b o z => Heap.get?_push_of_some _ (Heap.get?_push_of_some _ z)⟩
/-- the items of the tracked tuple at a, each in a new pair with its number -/
def ItEn (a : Addr) : It where
  go := fun i H => ∃ (xs : List V) (x : V), H a = some (.tup xs) ∧ xs[i]? = some x
  yld := fun i H v H' => ∃ (p : Addr) (x : V), v = .ref p ∧ H p = none ∧ H' = upd H p (.tup [.int (i : Nat), x]) ∧ ∀ xs, H a = some (.tup xs) → xs[i]? = some x
  stop := fun i H => ∃ xs : List V, H a = some (.tup xs) ∧ xs.length = i
def enAt (a e it : Addr) (i : Nat) (h : Heap) : Prop := (∃ old, IsEnum h e it (i : Int) old) ∧ h.IsTupleIter it a i ∧ e ≠ it
section
variable {X : Cx} {pins : List (Addr × Obj)} {σ : L2.St} {H : Hp} {s : Shared} {a e it : Addr} {xs : List V}
/-- the library's walk, at a state that the layer knows -/
theorem en_walk (hc : X.calm = true) (I : Inv X pins σ H s) (hf : ∀ b ∈ [e, it], FpOk X pins H b) (hne : e ≠ it) (hq : H a = some (.tup xs)) :
    ∃ its : List Value, Vals xs its ∧ s.heap.IsTuple a its.toArray ∧ WalksT X.prog X.w X.A e (e :: [it, a]) [e, it] its.toArray.size (fun i vals => ∃ t x, its.toArray[i]? = some x ∧ vals = #[.int i t, x])
      (fun i h => (∃ old, IsEnum h e it i old) ∧ (h.IsTupleIter it a i ∧ h.IsTuple a its.toArray)) (fun i T h => (∃ x, IsEnumOut h e it ((i : Int) + 1) x T) ∧ (h.IsTupleIter it a (i + 1) ∧ h.IsTuple a its.toArray) ∧ T ≠ e ∧ T ≠ it) := by
  obtain ⟨its, rv, p, _⟩ := I.tuple (SqT.of hq)
  have un : ∀ b ∈ [e, it], b ≠ a := fun b hb z => by
    have n := (hf b hb).1
    rw [z, hq] at n
    cases n
  refine ⟨its, rv, p, WalksT.enumerateD (Draws.tuple (A := X.A.in1) (I.ok.hd hc) it a (Ne.symm (un it (by simp))) its.toArray) e hne ?_ (by simp)⟩
  intro z
  rcases List.mem_cons.mp z with z | z
  · exact hne z
  · exact un e (by simp) (List.mem_singleton.mp z)
end
theorem en_turn {P : Program} {w : World} {K : PySem.W.Frag} {elts : List Expr} {kk : Nat} {tpos : Pos} (a e it : Addr) : Turn P w K (.Tuple elts kk tpos) (ItEn a) [e, it] e (enAt a e it) := by
  refine ⟨by simp, fun i h st b hb => ?_, fun i h h' st k => ⟨?_, ?_, st.2.2⟩, ?_, ?_, fun A i s Q E st q => ?_⟩
  · rcases st with ⟨⟨old, en⟩, ⟨ob, there, _, dt⟩, _⟩
    rcases List.mem_cons.mp hb with z | z
    · subst z
      exact ⟨_, en, fun v q => by cases q⟩
    · rw [List.mem_singleton.mp z]
      exact ⟨ob, there, fun v q => by rw [dt] at q; cases q⟩
  · exact st.1.imp fun old en => k e (by simp) _ en
  · exact st.2.1.at fun ob z => k it (by simp) ob z
  · intro X eP eW eK hc i pins s σ H E I hf st go
    subst eP eW eK
    obtain ⟨xs, x, hq, hx⟩ := go
    obtain ⟨its, rv, isT, W⟩ := en_walk hc I hf st.2.2 hq
    obtain ⟨u, hu, ru⟩ := rv.get hx
    have lt : i < its.toArray.size := by simpa using (List.getElem?_eq_some_iff.mp hu).1
    refine W.item i s _ E lt ⟨st.1, st.2.1, isT⟩ fun T vals h1 tk pt big hT mid keep1 => ⟨_, rfl, ?_⟩
    obtain ⟨t, y, hy, rfl⟩ := pt
    obtain rfl : y = u := by
      have hu' : its.toArray[i]? = some u := by simpa using hu
      exact Option.some.inj (hy.symm.trans hu')
    refine W.go elts kk tpos i T { s with heap := h1, toks := tk } _ E mid fun h2 st2 keep2 => ?_
    have nT : T ∉ [e, it] := W.apart i T h1 mid
    have hT2 : h2.IsTuple T #[.int (i : Nat) t, y] := hT.at fun ob z => keep2 T ob nT z
    have J : Inv X pins σ (upd H T (.tup [.int (i : Nat), x])) { s with heap := h2, toks := tk } :=
      I.turnedNew (ch := [e, it]) (fun b ob hb z => keep2 b ob hb (keep1 b ob hb z)) hf big ⟨by show 2 ≤ sizeLine; decide, [.int i t, y], .cons ⟨_, rfl⟩ (.cons ru .nil), hT2⟩
    refine ⟨.ref T, _, J, rfl, ⟨T, x, rfl, I.hok.fresh big, rfl, fun ys hy => by rw [hq] at hy; cases hy; exact hx⟩, ⟨st2.1, st2.2.1, st.2.2⟩, fun b hb => ?_⟩
    have nb : b ≠ T := fun z => nT (by rw [← z]; exact hb)
    rw [upd_ne nb]
    exact (hf b hb).1
  · intro X eP eW eK hc i pins s σ H E I hf st stop
    subst eP eW eK
    obtain ⟨xs, hq, hl⟩ := stop
    obtain ⟨its, rv, isT, W⟩ := en_walk hc I hf st.2.2 hq
    have ei : its.toArray.size = i := by
      rw [← hl, rv.length]
      simp
    refine W.done s _ E ?_ fun h1 tk keep => ⟨rfl, ?_⟩
    · rw [ei]
      exact ⟨st.1, st.2.1, isT⟩
    · exact I.turnedL (ch := [e, it]) keep hf
  · exact wpAny_pyIter_enum st.1.choose_spec q
def iEn (ta : TA) : TI := fun σ H R => ta σ H fun vs H1 => ∃ (a : Addr) (xs : List V), vs = [.ref a] ∧ H1 a = some (.tup xs) ∧ R (ItEn a) H1
/-- for .., .. in enumerate(a tuple) -/
theorem pi_en {X : Cx} {e : Expr} {ta : TA} {p pos tpos : Pos} {elts : List Expr} {kk : Nat} (hg : Gl X "enumerate") (hm : X.mg "enumerate" = none) (ha : PA X [e] ta) (hs : starEach [e] X.env = [(false, eval e X.env)] := by rfl) :
    PI X (.Tuple elts kk tpos) (.Call (.Name "enumerate" p) [e] [] pos) (iEn ta) := by
  constructor
  intro pins s σ H R I h
  refine Call_ (ld_blt I hg hm boot_enumerate (PyProof.Rows.callWith_type1 (thn (ha.run pos pins s σ H _ I h) ?_) hs rfl))
  rintro us s1 ⟨vs, H1, I1, r, a, xs, rfl, hq, q⟩
  match us, r with
  | [u], .cons ru .nil =>
    obtain rfl : u = Value.ref a := ru
    obtain ⟨its, rv, isT, _⟩ := I1.tuple (SqT.of hq)
    refine call_en isT fun h1 en ti keep => wpAny_pyIter_enum en ?_
    refine ⟨_, [s1.heap.objs.size + 1, s1.heap.objs.size], _, _, H1, rfl, I1.kept (t' := s1.toks) keep, en_turn a _ _, ⟨⟨.none, en⟩, ti, Nat.succ_ne_self _⟩, fun b hb => ?_, q⟩
    have big : s1.heap.objs.size ≤ b := by
      rcases List.mem_cons.mp hb with z | z
      · rw [z]; exact Nat.le_succ _
      · rw [List.mem_singleton.mp z]; exact Nat.le_refl _
    exact I1.fpOk big (I1.hok.fresh big)
/-- the loop by an invariant of its own -/
theorem for_en {a : Addr} {xs : List V} {g : TG} {tb : TS} {D : Ends} {σ : L2.St} {H : Hp} (Pv : Nat → L2.St → Hp → Prop) (h0 : Pv 0 σ H) (hl : ∀ i σ H, Pv i σ H → H a = some (.tup xs))
    (hs : ∀ (i : Nat) x σ H p, xs[i]? = some x → Pv i σ H → H p = Option.none → g (.ref p) σ (upd H p (.tup [.int (i : Nat), x])) fun σ2 H2 => tb { D with nx := Pv (i + 1), ct := Pv (i + 1), bk := D.nx } σ2 H2) (hd : ∀ σ H, Pv xs.length σ H → D.nx σ H) :
    ∃ W : Nat → Nat → L2.St → Hp → Prop, (∃ m, W 0 m σ H) ∧ ∀ i m σ H, W i m σ H → ((ItEn a).stop i H ∧ D.nx σ H) ∨ ((ItEn a).go i H ∧ ∃ N : L2.St → Hp → Prop, (∀ σ' H', N σ' H' → ∃ m', m' < m ∧ W (i + 1) m' σ' H') ∧ ∀ x H', (ItEn a).yld i H x H' → g x σ H' fun σ2 H2 => tb { D with nx := N, ct := N, bk := D.nx } σ2 H2) := by
  refine ⟨fun i m σ H => i + m = xs.length ∧ Pv i σ H, ⟨_, Nat.zero_add _, h0⟩, ?_⟩
  intro i m σ H ⟨em, p⟩
  have q := hl i σ H p
  cases m with
  | zero =>
    have ei : i = xs.length := em
    rw [ei] at p ⊢
    exact .inl ⟨⟨xs, q, rfl⟩, hd σ H p⟩
  | succ m =>
    have lt : i < xs.length := by omega
    have hx : xs[i]? = some xs[i] := List.getElem?_eq_getElem lt
    refine .inr ⟨⟨xs, _, q, hx⟩, Pv (i + 1), fun σ' H' p' => ⟨m, Nat.lt_succ_self m, by omega, p'⟩, ?_⟩
    rintro y H' ⟨t, x, rfl, nt, rfl, hy⟩
    obtain rfl : x = xs[i] := Option.some.inj ((hy xs q).symm.trans hx)
    exact hs i _ σ H t hx p nt
end T39

set_option Elab.async false
set_option linter.all false
set_option maxRecDepth 100000
set_option maxHeartbeats 4000000
set_option pp.maxSteps 60
namespace T39
open PySem L2
/-- what is tracked but for the bag -/
def Off (a c : Addr) (H : Hp) : Hp := fun b => if b = a ∨ b = c then none else H b
theorem off_at {a c b : Addr} {H : Hp} {o : HO} (h : b ≠ a ∧ b ≠ c) (e : H b = some o) : Off a c H b = some o := by
  unfold Off
  rw [if_neg (fun z => z.elim h.1 h.2)]
  exact e
theorem off_some {a c b : Addr} {H : Hp} {o : HO} (h : Off a c H b = some o) : b ≠ a ∧ b ≠ c ∧ H b = some o := by
  unfold Off at h
  by_cases e : b = a ∨ b = c
  · rw [if_pos e] at h; cases h
  · rw [if_neg e] at h; exact ⟨fun z => e (.inl z), fun z => e (.inr z), h⟩
theorem Go.off {a c : Addr} {H H' : Hp} (g : Go a c H H') : Ext (Off a c H) (Off a c H') := fun b o h => by
  obtain ⟨n, m, e⟩ := off_some h
  exact off_at ⟨n, m⟩ (g.2 b o n m e)
theorem off_le {a c : Addr} {H : Hp} : Ext (Off a c H) H := fun b o h => (off_some h).2.2
theorem off_tup {a c q : Addr} {H : Hp} {xs : List V} (p : BagAt H a c) (h : H q = some (.tup xs)) : (Off a c H) q = some (.tup xs) := off_at (bag_no p h fun _ z => nomatch z) h
/-! ### kinds of things -/
section
variable {K : PySem.W.Frag} {S : Hp} {n : Nat}
theorem Th.plain {x : V} {t : Value} (ty : TyX K S x t) (h1 : PySem.W.kitOne K t (.type "int") = some (isI x || isB x)) (h2 : PySem.W.kitOne K t (.type "bool") = some (isB x)) (h3 : PySem.W.kitOne K t (.type "tuple") = some false)
    (h : ∀ a, x = .ref a → ∃ o, S a = some o ∧ ∀ xs, o ≠ .tup xs) : Th K S n x := by
  unfold Th
  exact ⟨t, ty, h1, h2, .inl ⟨h3, h⟩⟩
theorem Th.non : Th K S n .non := Th.plain (.base .non) (kit_ty (by decide +kernel)) (kit_ty (by decide +kernel)) (kit_ty (by decide +kernel)) fun _ h => nomatch h
theorem Th.bl (b : Bool) : Th K S n (.bl b) := Th.plain (.base (.bl b)) (kit_ty (show kitB "bool" "int" = some true by decide +kernel)) (kit_ty (show kitB "bool" "bool" = some true by decide +kernel)) (kit_ty (by decide +kernel)) fun _ h => nomatch h
theorem Th.int (i : Int) : Th K S n (.int i) := Th.plain (.base (.int i)) (kit_ty (show kitB "int" "int" = some true by decide +kernel)) (kit_ty (show kitB "int" "bool" = some false by decide +kernel)) (kit_ty (by decide +kernel)) fun _ h => nomatch h
theorem Th.str (z : Str) : Th K S n (.str z) := Th.plain (.base (.str z)) (kit_ty (show kitB "str" "int" = some false by decide +kernel)) (kit_ty (show kitB "str" "bool" = some false by decide +kernel)) (kit_ty (by decide +kernel)) fun _ h => nomatch h
theorem Th.lst {p : Addr} {xs : List V} (h : S p = some (.lst xs)) : Th K S n (.ref p) :=
  Th.plain (.base (.lst h)) (kit_ty (show kitB "list" "int" = some false by decide +kernel)) (kit_ty (show kitB "list" "bool" = some false by decide +kernel)) (kit_ty (by decide +kernel)) fun a e => by cases e; exact ⟨_, h, fun _ z => nomatch z⟩
theorem Th.dct {p : Addr} {kvs : List (Key × V)} (h : S p = some (.dK kvs)) : Th K S n (.ref p) :=
  Th.plain (.base (.dK h)) (kit_ty (show kitB "dict" "int" = some false by decide +kernel)) (kit_ty (show kitB "dict" "bool" = some false by decide +kernel)) (kit_ty (by decide +kernel)) fun a e => by cases e; exact ⟨_, h, fun _ z => nomatch z⟩
theorem Th.tup {p : Addr} {xs : List V} (h : S p = some (.tup xs)) (it : ∀ y ∈ xs, Th K S n y) : Th K S (n + 1) (.ref p) := by
  unfold Th
  exact ⟨_, .base (.tup h), kit_ty (show kitB "tuple" "int" = some false by decide +kernel), kit_ty (show kitB "tuple" "bool" = some false by decide +kernel), .inr ⟨kit_ty (by decide +kernel), p, xs, rfl, h, it⟩⟩
end
theorem Th.tup0 {K : PySem.W.Frag} {S : Hp} {p : Addr} {xs : List V} (h : S p = some (.tup xs)) : Th K S 0 (.ref p) := by
  unfold Th
  exact ⟨_, .base (.tup h), kit_ty (show kitB "tuple" "int" = some false by decide +kernel), kit_ty (show kitB "tuple" "bool" = some false by decide +kernel), .inr ⟨kit_ty (by decide +kernel), p, xs, rfl, h, True.intro⟩⟩
theorem eqv_ints : ∀ l k : List Int, PyData.eqvAll (l.map .int) (k.map .int) = decide (l = k)
  | [], [] => by simp [PyData.eqvAll]
  | [], y :: k => by simp [PyData.eqvAll]
  | x :: l, [] => by simp [PyData.eqvAll]
  | x :: l, y :: k => by
    have ih := eqv_ints l k
    simp only [List.map_cons, PyData.eqvAll, PyData.eqv, ih]
    by_cases h : x = y <;> by_cases g : l = k <;> simp [h, g]
def dT (ll : List (List Int)) : PyData := .tuple (ll.map fun l => .tuple (l.map .int))
theorem eqv_lists : ∀ l k : List (List Int), PyData.eqvAll (l.map fun l => .tuple (l.map .int)) (k.map fun l => .tuple (l.map .int)) = decide (l = k)
  | [], [] => by simp [PyData.eqvAll]
  | [], y :: k => by simp [PyData.eqvAll]
  | x :: l, [] => by simp [PyData.eqvAll]
  | x :: l, y :: k => by
    have ih := eqv_lists l k
    simp only [List.map_cons, PyData.eqvAll, PyData.eqv, ih, eqv_ints]
    by_cases h : x = y <;> by_cases g : l = k <;> simp [h, g]
theorem eqv_dT (l k : List (List Int)) : PyData.eqv (dT l) (dT k) = decide (l = k) := by
  show PyData.eqvAll _ _ = _
  exact eqv_lists l k
theorem lay_ints : ∀ l : List Int, PyData.canLayAll0 (l.map .int) = true ∧ PyData.depthAll (l.map .int) = 0
  | [] => ⟨by simp [PyData.canLayAll0], by simp [PyData.depthAll]⟩
  | x :: l => by
    obtain ⟨h, g⟩ := lay_ints l
    exact ⟨by simp [PyData.canLayAll0, PyData.canLay0, h], by simp [PyData.depthAll, PyData.depth, g]⟩
theorem lay_lists : ∀ l : List (List Int), PyData.canLayAll0 (l.map fun l => .tuple (l.map .int)) = true ∧ PyData.depthAll (l.map fun l => .tuple (l.map .int)) ≤ 1
  | [] => ⟨by simp [PyData.canLayAll0], by simp [PyData.depthAll]⟩
  | x :: l => by
    obtain ⟨h, g⟩ := lay_lists l
    obtain ⟨h1, g1⟩ := lay_ints x
    refine ⟨by simp [PyData.canLayAll0, PyData.canLay0, h, h1], ?_⟩
    simp only [List.map_cons, PyData.depthAll, PyData.depth, g1]
    omega
theorem shaped_dT (l : List (List Int)) : SeqAt.shaped (dT l) = true := by
  obtain ⟨h, g⟩ := lay_lists l
  refine Bool.and_eq_true_iff.mpr ⟨by unfold dT; rw [PyData.canLay0]; exact h, decide_eq_true ?_⟩
  unfold dT
  rw [PyData.depth]
  exact Nat.le_trans (Nat.succ_le_succ g) (by decide)
/-- a tuple of tuples of ints stands at b -/
def TT (H : Hp) (b : Addr) (ll : List (List Int)) : Prop := ∃ as : List Addr, H b = some (.tup (as.map V.ref)) ∧ Paired (fun a l => H a = some (.tup (l.map V.int))) as ll
theorem Paired.imp' {α β : Type} {F G : α → β → Prop} (h : ∀ a b, F a b → G a b) : ∀ {l : List α} {k : List β}, Paired F l k → Paired G l k
  | _, _, .nil => .nil
  | _, _, .cons a r => .cons (h _ _ a) (Paired.imp' h r)
theorem TT.ext {H H' : Hp} {b : Addr} {ll : List (List Int)} (e : Ext H H') (h : TT H b ll) : TT H' b ll := by
  obtain ⟨as, h1, h2⟩ := h
  exact ⟨as, e _ _ h1, Paired.imp' (fun a l h => e _ _ h) h2⟩
theorem dp_ints {K : PySem.W.Frag} {H : Hp} : ∀ l : List Int, DpAll K H (l.map V.int) (l.map .int)
  | [] => .nil
  | x :: l => .cons (.int x) (dp_ints l)
theorem dp_lists {K : PySem.W.Frag} {H : Hp} : ∀ {as : List Addr} {ll : List (List Int)}, Paired (fun a l => H a = some (.tup (l.map V.int))) as ll → DpAll K H (as.map V.ref) (ll.map fun l => .tuple (l.map .int))
  | _, _, .nil => .nil
  | _, _, .cons h r => .cons (.tup (SqT.of h) (dp_ints _)) (dp_lists r)
theorem TT.dp {K : PySem.W.Frag} {H : Hp} {b : Addr} {ll : List (List Int)} (h : TT H b ll) : Dp K H (.ref b) (dT ll) := by
  obtain ⟨as, h1, h2⟩ := h
  exact .tup (SqT.of h1) (dp_lists h2)
/-- the tuples at these places are these -/
abbrev PT2 (S : Hp) (as : List Addr) (ll : List (List Int)) : Prop := Paired (fun a l => S a = some (.tup (l.map V.int))) as ll
theorem PT2.len {S : Hp} : ∀ {as : List Addr} {ll : List (List Int)}, PT2 S as ll → as.length = ll.length
  | _, _, .nil => rfl
  | _, _, .cons _ r => congrArg (· + 1) (PT2.len r)
theorem PT2.get {S : Hp} : ∀ {as : List Addr} {ll : List (List Int)} {i : Nat} {a : Addr}, PT2 S as ll → as[i]? = some a → ∃ l, ll[i]? = some l ∧ S a = some (.tup (l.map V.int))
  | _, _, i, _, .nil, h => by simp at h
  | _, _, 0, _, .cons x _, h => by cases h; exact ⟨_, rfl, x⟩
  | _, _, i + 1, _, .cons _ r, h => PT2.get (i := i) r (by simpa using h)
theorem PT2.put {S : Hp} {b : Addr} {l : List Int} (h : S b = some (.tup (l.map V.int))) : ∀ {as : List Addr} {ll : List (List Int)} {i : Nat}, PT2 S as ll → PT2 S (as.set i b) (ll.set i l)
  | _, _, i, .nil => by simpa using (Paired.nil)
  | _, _, 0, .cons _ r => .cons h r
  | _, _, i + 1, .cons x r => .cons x (PT2.put h r)
theorem PT2.snoc {S : Hp} {b : Addr} {l : List Int} {as : List Addr} {ll : List (List Int)} (r : PT2 S as ll) (h : S b = some (.tup (l.map V.int))) : PT2 S (as ++ [b]) (ll ++ [l]) := Paired.snoc r h
theorem PT2.mono {S S' : Hp} {as : List Addr} {ll : List (List Int)} (e : ∀ b xs, S b = some (.tup xs) → S' b = some (.tup xs)) (r : PT2 S as ll) : PT2 S' as ll := Paired.imp' (fun a l h => e _ _ h) r
theorem PT2.th {K : PySem.W.Frag} {S : Hp} {n : Nat} {as : List Addr} {ll : List (List Int)} (r : PT2 S as ll) : ∀ y ∈ as.map V.ref, Th K S (n + 1) y := by
  intro y hy
  obtain ⟨a, ha, rfl⟩ := List.mem_map.mp hy
  obtain ⟨i, hi⟩ := List.mem_iff_getElem?.mp ha
  obtain ⟨l, _, h⟩ := r.get hi
  refine Th.tup h fun z hz => ?_
  obtain ⟨k, _, rfl⟩ := List.mem_map.mp hz
  exact Th.int k
/-- two tuples put together, whichever object that is -/
theorem cat_any {K : PySem.W.Frag} {H : Hp} {Q : VK} {a b : Addr} {xs ys : List V} (ha : H a = some (.tup xs)) (hb : H b = some (.tup ys)) (len : xs.length + ys.length ≤ 1000) (k : ∀ (p : Addr) (H' : Hp), Ext H H' → H' p = some (.tup (xs ++ ys)) → Q (.ref p) H') : rCatA K (.ref a) (.ref b) H Q :=
  ⟨a, b, xs, ys, rfl, rfl, SqT.of ha, SqT.of hb, Nat.le_trans len (by decide), fun e => by subst e; exact k b H Ext.rfl' hb, fun _ e => by subst e; exact k a H Ext.rfl' (by rw [List.append_nil]; exact ha), fun _ _ p np => k p _ (Ext.upd np) upd_same⟩
theorem sl_any {K : PySem.W.Frag} {H : Hp} {Q : VK} {a : Addr} {xs : List V} {lo hi : Option Int} (ha : H a = some (.tup xs)) (k : ∀ (p : Addr) (H' : Hp), Ext H H' → H' p = some (.tup (cutV xs lo hi)) → Q (.ref p) H') : rSlA K (.ref a) lo hi H Q := by
  refine ⟨a, xs, rfl, SqT.of ha, fun z => k a H Ext.rfl' ?_, fun _ p np => k p _ (Ext.upd np) upd_same⟩
  unfold cutV
  rw [z.1, z.2, List.drop_zero, Nat.sub_zero, List.take_of_length_le (Nat.le_refl _)]
  exact ha
theorem cut_mem {xs : List V} {lo hi : Option Int} {y : V} (h : y ∈ cutV xs lo hi) : y ∈ xs := List.mem_of_mem_drop (List.mem_of_mem_take h)
theorem Th.tup_back {K : PySem.W.Frag} {H H1 : Hp} {n : Nat} {b : Addr} {xs : List V} (e : Ext H H1) (h : Th K H n (.ref b)) (h1 : H1 b = some (.tup xs)) : H b = some (.tup xs) := by
  unfold Th at h
  obtain ⟨t, _, _, _, h⟩ := h
  rcases h with ⟨_, h⟩ | ⟨_, b', ys, e', hb, _⟩
  · obtain ⟨o, ho, no⟩ := h b rfl
    rw [e _ _ ho] at h1
    cases h1
    exact absurd rfl (no xs)
  · cases e'
    have := (e _ _ hb).symm.trans h1
    cases this
    exact hb
theorem lst_ne {H : Hp} {f b : Addr} {xs ys : List V} (hf : H f = some (.lst xs)) (hb : H b = some (.tup ys)) : b ≠ f := fun e => by
  rw [e, hf] at hb
  cases hb
theorem int_inj : ∀ {ns ks : List Int}, ns.map V.int = ks.map V.int → ns = ks
  | [], [], _ => rfl
  | n :: ns, k :: ks, h => by
    injection h with h1 h2
    injection h1 with h1
    rw [h1, int_inj h2]
  | [], k :: ks, h => by cases h
  | n :: ns, [], h => by cases h
end T39

set_option Elab.async false
set_option linter.all false
set_option maxRecDepth 100000
set_option maxHeartbeats 4000000
set_option pp.maxSteps 60
/-! Cells and their faces. -/
namespace T39
open PySem L2
abbrev sAsc : Stmt := top 3
abbrev sCell : Stmt := top 14
abbrev sFaces : Stmt := top 15
abbrev sLFaces : Stmt := top 21
abbrev sLCell : Stmt := top 23
/-! ### in, of a tuple through and through -/
def rInT (K : PySem.W.Frag) : R2 := fun x y H Q => ∃ d ds, Dp K H x d ∧ Dp K H y (.tuple ds) ∧ SeqAt.shaped d = true ∧ SeqAt.shaped (.tuple ds) = true ∧ Q (.bl (ds.any fun z => PyData.eqv z d)) H
theorem op_inT {X : Cx} (hu : X.A.units + 65 < cLine) : OpR X (compareOp .In) (rInT X.K) := by
  rintro pins s σ H x y v u Q I rx ry ⟨d, ds, hd, he, sd, se, q⟩
  obtain ⟨as, r1⟩ := Dp.reads I d x v hd rx
  obtain ⟨bs, r2⟩ := Dp.reads I (.tuple ds) y u he ry
  exact SeqAt.in_tuple_reads r2 r1 (SeqAt.canLay_of_shaped se) (SeqAt.canLay_of_shaped sd) (PyProof.Rows.room_in_shaped sd hu) ⟨.bl _, H, I, rfl, q⟩
def tI (l : List Int) : PyData := .tuple (l.map .int)
theorem shaped_tI (l : List Int) : SeqAt.shaped (tI l) = true := by
  obtain ⟨h, g⟩ := lay_ints l
  unfold tI
  refine Bool.and_eq_true_iff.mpr ⟨by rw [PyData.canLay0]; exact h, decide_eq_true ?_⟩
  rw [PyData.depth, g]
  decide
theorem shaped_dL (l : List (List Int)) : SeqAt.shaped (.list (l.map tI)) = true := by
  obtain ⟨h, g⟩ := lay_lists l
  refine Bool.and_eq_true_iff.mpr ⟨by rw [PyData.canLay0]; exact h, decide_eq_true ?_⟩
  rw [PyData.depth]
  exact Nat.le_trans (Nat.succ_le_succ g) (by decide)
theorem eqv_tI (l k : List Int) : PyData.eqv (tI l) (tI k) = decide (l = k) := by
  unfold tI
  rw [PyData.eqv]
  exact eqv_ints l k
theorem any_tI (ll : List (List Int)) (l : List Int) : ((ll.map tI).any fun z => PyData.eqv z (tI l)) = decide (l ∈ ll) := by
  induction ll with
  | nil => simp
  | cons k ll ih =>
    rw [List.map_cons, List.any_cons, ih, eqv_tI]
    by_cases h : k = l
    · simp [h]
    · have h' : ¬ l = k := fun e => h e.symm
      simp [h, h']
theorem dp_tI {K : PySem.W.Frag} {H : Hp} {c : Addr} {l : List Int} (h : H c = some (.tup (l.map V.int))) : Dp K H (.ref c) (tI l) := .tup (SqT.of h) (dp_ints l)
theorem dp_lst {K : PySem.W.Frag} {H : Hp} {c : Addr} {as : List Addr} {ll : List (List Int)} (h : H c = some (.lst (as.map V.ref))) (pt : PT2 H as ll) : Dp K H (.ref c) (.list (ll.map tI)) := .lst (SqL.of h) (dp_lists pt)
/-- a cell in a tuple of cells, in a list of cells -/
theorem in_T {K : PySem.W.Frag} {H : Hp} {c q : Addr} {l : List Int} {ll : List (List Int)} {Q : VK} (h : H c = some (.tup (l.map V.int))) (tt : TT H q ll) (k : Q (.bl (decide (l ∈ ll))) H) : rInT K (.ref c) (.ref q) H Q :=
  ⟨tI l, ll.map tI, dp_tI h, tt.dp, shaped_tI l, shaped_dT ll, by rw [any_tI]; exact k⟩
theorem in_L {K : PySem.W.Frag} {H : Hp} {c q : Addr} {l : List Int} {as : List Addr} {ll : List (List Int)} {Q : VK} (h : H c = some (.tup (l.map V.int))) (hq : H q = some (.lst (as.map V.ref))) (pt : PT2 H as ll) (k : Q (.bl (decide (l ∈ ll))) H) : rInD K (.ref c) (.ref q) H Q :=
  ⟨tI l, ll.map tI, dp_tI h, dp_lst hq pt, shaped_tI l, shaped_dL ll, by rw [any_tI]; exact k⟩
theorem notin_L {K : PySem.W.Frag} {H : Hp} {c q : Addr} {l : List Int} {as : List Addr} {ll : List (List Int)} {Q : VK} (h : H c = some (.tup (l.map V.int))) (hq : H q = some (.lst (as.map V.ref))) (pt : PT2 H as ll) (k : Q (.bl (!decide (l ∈ ll))) H) : rNotInD K (.ref c) (.ref q) H Q :=
  ⟨tI l, ll.map tI, dp_tI h, dp_lst hq pt, shaped_tI l, shaped_dL ll, by rw [any_tI]; exact k⟩
/-! ### what a cell is -/
def CellL (ns : List Int) : Prop := 1 ≤ ns.length ∧ ns.length ≤ 4 ∧ (∀ n ∈ ns, 0 ≤ n ∧ n ≤ 29) ∧ ns.Pairwise (· < ·)
def Low (ns : List Int) : Prop := (∀ n ∈ ns, 0 ≤ n ∧ n ≤ 29) ∧ ns.Pairwise (· < ·)
def isCell (H : Hp) (x : V) : Prop := ∃ (c : Addr) (ns : List Int), x = .ref c ∧ H c = some (.tup (ns.map V.int)) ∧ CellL ns
def isLow (H : Hp) (x : V) : Prop := ∃ (c : Addr) (ns : List Int), x = .ref c ∧ H c = some (.tup (ns.map V.int)) ∧ Low ns
theorem isCell.ext {H H' : Hp} {x : V} (e : Ext H H') (h : isCell H x) : isCell H' x := by
  obtain ⟨c, ns, ex, hc, r⟩ := h
  exact ⟨c, ns, ex, e _ _ hc, r⟩
theorem isCell.back {K : PySem.W.Frag} {H H1 : Hp} {n : Nat} {x : V} (e : Ext H H1) (h : Th K H n x) (h1 : isCell H1 x) : isCell H x := by
  obtain ⟨c, ns, rfl, hc, r⟩ := h1
  exact ⟨c, ns, rfl, h.tup_back e hc, r⟩
/-- tuples are not too long -/
def Sm (H : Hp) (x : V) : Prop := ∀ (c : Addr) (xs : List V), x = .ref c → H c = some (.tup xs) → xs.length ≤ 1000
theorem Sm.ext {K : PySem.W.Frag} {H H' : Hp} {n : Nat} {x : V} (e : Ext H H') (h : Th K H n x) (s : Sm H x) : Sm H' x := fun c xs ex hc => by
  subst ex
  exact s c xs rfl (h.tup_back e hc)
theorem adj_pairwise : ∀ (ns : List Int), (∀ p ∈ ns.zip ns.tail, p.1 < p.2) ↔ ns.Pairwise (· < ·)
  | [] => by simp
  | [n] => by simp
  | n :: m :: r => by
    have ih := adj_pairwise (m :: r)
    constructor
    · intro h
      have hm : n < m := h (n, m) (by simp)
      have hr := ih.mp fun p hp => h p (by
        show p ∈ (n, m) :: (m :: r).zip r
        exact List.mem_cons_of_mem _ hp)
      refine List.pairwise_cons.mpr ⟨fun a ha => ?_, hr⟩
      rcases List.mem_cons.mp ha with rfl | ha
      · exact hm
      · exact Int.lt_trans hm ((List.pairwise_cons.mp hr).1 a ha)
    · intro h p hp
      obtain ⟨h1, h2⟩ := List.pairwise_cons.mp h
      have hp' : p ∈ (n, m) :: (m :: r).zip r := hp
      rcases List.mem_cons.mp hp' with rfl | hp'
      · exact h1 m List.mem_cons_self
      · exact ih.mpr h2 p hp'
def facesL (ns : List Int) : List (List Int) := if ns.length = 1 then [] else (List.range ns.length).map fun i => ns.eraseIdx i
def allF (ns : List Int) : List (List Int) := (List.range ns.length).map fun i => ns.eraseIdx i
theorem allF_get {ns : List Int} {i : Nat} (h : i < ns.length) : (allF ns)[i]? = some (ns.eraseIdx i) := by
  unfold allF
  rw [List.getElem?_map, List.getElem?_range h]
  rfl
theorem cut_erase {ns : List Int} {i : Nat} (h : i < ns.length) : cutV (ns.map V.int) none (some (i : Int)) ++ cutV (ns.map V.int) (some ((i : Int) + 1)) none = (ns.eraseIdx i).map V.int := by
  have e1 : HT.sIx (ns.map V.int).length (ns.map V.int).length (some (i : Int)) = i := by
    rw [HT.sIx_nat, List.length_map]
    omega
  have e2 : HT.sIx (ns.map V.int).length 0 (some ((i : Int) + 1)) = i + 1 := by
    rw [show ((i : Int) + 1) = ((i + 1 : Nat) : Int) by omega, HT.sIx_nat, List.length_map]
    omega
  unfold cutV
  rw [e1, e2, HT.sIx_none, HT.sIx_none, List.drop_zero, Nat.sub_zero, List.eraseIdx_eq_take_drop_succ, List.map_append, List.map_take, List.map_drop, List.take_of_length_le (l := (ns.map V.int).drop (i + 1))]
  rw [List.length_drop]
  exact Nat.le_refl _
/-- zip of a tuple and a shorter one -/
theorem lc_zipM {K : PySem.W.Frag} {a b : Addr} {xs ys : List V} {g : TG} {tt : L2.TT} {te : TE} {vs : List Nat} {τ : L2.St} {H1 : Hp} {D : Addr} {Qd : Hp → Prop} (len : ys.length ≤ xs.length) (Pv : Nat → Hp → Prop) (h0 : Pv 0 (upd H1 D (.lst [])))
    (hq : ∀ i H, Pv i H → SqT K H a xs ∧ SqT K H b ys)
    (hs : ∀ i x y t H, xs[i]? = some x → ys[i]? = some y → Pv i H → H t = none → g (.ref t) (wipe τ vs) (upd H t (.tup [x, y])) fun σ2 H2 => wipe σ2 vs = wipe τ vs ∧ tt σ2 H2 fun c H3 =>
      if c = true then te σ2 H3 fun z H4 => ∃ acc, H4 D = some (.lst acc) ∧ acc.length < sizeLine ∧ Pv (i + 1) (upd H4 D (.lst (acc ++ [z]))) else Pv (i + 1) H3) (hd : ∀ H, Pv ys.length H → Qd H) :
    ∃ W : Nat → Nat → Hp → Prop, (∃ m, W 0 m (upd H1 D (.lst []))) ∧ ∀ i m H, W i m H →
      ((RZ.ItzT K a b).stop i H ∧ Qd H) ∨ ((RZ.ItzT K a b).go i H ∧ ∃ Nx : Hp → Prop, (∀ H', Nx H' → ∃ m', m' < m ∧ W (i + 1) m' H') ∧ ∀ x H', (RZ.ItzT K a b).yld i H x H' → g x (wipe τ vs) H' fun σ2 H2 => wipe σ2 vs = wipe τ vs ∧ tt σ2 H2 fun c H3 =>
        if c = true then te σ2 H3 fun z H4 => ∃ acc, H4 D = some (.lst acc) ∧ acc.length < sizeLine ∧ Nx (upd H4 D (.lst (acc ++ [z]))) else Nx H3) := by
  refine ⟨fun i m H => m + i = ys.length ∧ Pv i H, ⟨ys.length, rfl, h0⟩, ?_⟩
  rintro i m H ⟨em, p⟩
  obtain ⟨qa, qb⟩ := hq i H p
  cases m with
  | zero =>
    have e : i = ys.length := by omega
    subst e
    exact .inl ⟨⟨xs, ys, qa, qb, .inr (Nat.le_refl _)⟩, hd H p⟩
  | succ k =>
    have lb : i < ys.length := by omega
    have la : i < xs.length := by omega
    have ea : xs[i]? = some xs[i] := List.getElem?_eq_getElem la
    have eb : ys[i]? = some ys[i] := List.getElem?_eq_getElem lb
    refine .inr ⟨⟨xs, ys, _, _, qa, qb, ea, eb⟩, Pv (i + 1), fun H' p' => ⟨k, Nat.lt_succ_self k, by omega, p'⟩, fun v H' y => ?_⟩
    obtain ⟨t, x', y', rfl, nt, rfl, f1, f2⟩ := y
    exact hs i x' y' t H (f1 xs qa) (f2 ys qb) p nt
theorem low_ints : ∀ {xs : List V}, (∀ y ∈ xs, numV 29 y = true) → ∃ ns : List Int, xs = ns.map V.int ∧ ∀ n ∈ ns, 0 ≤ n ∧ n ≤ 29
  | [], _ => ⟨[], rfl, fun n h => by cases h⟩
  | y :: ys, h => by
    obtain ⟨i, rfl, h1, h2⟩ := numV_true.mp (h y List.mem_cons_self)
    obtain ⟨ns, rfl, h3⟩ := low_ints (xs := ys) fun z hz => h z (List.mem_cons_of_mem _ hz)
    refine ⟨i :: ns, rfl, fun n hn => ?_⟩
    rcases List.mem_cons.mp hn with rfl | hn
    · exact ⟨h1, h2⟩
    · exact h3 n hn
theorem map_int_get {ns : List Int} {i : Nat} {x : V} (h : (ns.map V.int)[i]? = some x) : ∃ n, ns[i]? = some n ∧ x = .int n := by
  rw [List.getElem?_map] at h
  cases e : ns[i]? with
  | none => rw [e] at h; cases h
  | some n => rw [e] at h; cases h; exact ⟨n, rfl, rfl⟩
def spAsc (K : PySem.W.Frag) : Sp := fun vs H Q _ => ∃ x : V, vs = [.int 29, x] ∧ Th K H 1 x ∧ Sm H x ∧ ∀ (bb : Bool) (H' : Hp), (bb = true ↔ isLow H x) → Ext H H' → Q (.bl bb) H'
def spCell (K : PySem.W.Frag) : Sp := fun vs H Q _ => ∃ x : V, vs = [x] ∧ Th K H 1 x ∧ Sm H x ∧ ∀ (bb : Bool) (H' : Hp), (bb = true ↔ isCell H x) → Ext H H' → Q (.bl bb) H'
def spFaces : Sp := fun vs H Q _ => ∃ (c : Addr) (ns : List Int), vs = [.ref c] ∧ H c = some (.tup (ns.map V.int)) ∧ 1 ≤ ns.length ∧ ns.length ≤ 4 ∧ ∀ (f : Addr) (as : List Addr) (H' : Hp), Ext H H' → H' f = some (.lst (as.map V.ref)) → PT2 H' as (facesL ns) → Q (.ref f) H'
structure TowC (mg : Str → Option Value) : Prop where
  mc : ∃ t, mg "MOST_CELLS" = some (.int 40 t)
  mi : ∃ t, mg "MOST_IN_CELL" = some (.int 4 t)
  mn : ∃ t, mg "MOST_NAME" = some (.int 29 t)
  zip : mg "zip" = none
section
variable {P : Program} {w : World} {K : PySem.W.Frag} {mg : Str → Option Value} {base : Heap}
theorem scAsc : FnScope ["most", "thing", "item", "after"] ["most", "thing"] (defScope sAsc) := ⟨rfl, rfl, rfl, by decide +kernel, rfl, by decide +kernel, by decide +kernel⟩
theorem ok_asc {f : Addr} {fd : FuncData} (F : L2.Fun K "is_ascending" "is_ascending" sAsc f fd) (T : Gb mg) (M : TowC mg) (cN : Cal P w K mg base 2 "is_number" (spNumber K) []) : FnOk P w K mg base CX0 3 f fd ["most", "thing"] (spAsc K) := by
  refine F.ok scAsc (fun vs H Q E h => ?_) (fun cdv A outer s H vs Q E hr h => ?_)
  · obtain ⟨x, rfl, _⟩ := h
    rfl
  · obtain ⟨x, rfl, th, sm, k⟩ := h
    unfold Th at th
    obtain ⟨t, ty, ki, kb, kt⟩ := th
    refine ⟨_, pss_cons (ps_if (PW.pt (pw_or (pt_not (pt_val (pe_callB call_isi (by rfl) T.isi (by decide +kernel) (pa_cons (pv 1) (pa_cons (pe_bltn (v := .ty "tuple") (by rfl) T.tup (by decide +kernel) rfl) pa_nil)))))
        (pw_or1 (pt_not (pt_val (pe_callB (cr_all rfl) (by rfl) T.all (by decide +kernel) (pa_cons (pe_lc (own := [("item", 2)]) (g := gName 2) (tt := tYes) rfl scAsc.nd (pi_tup (pv 1)) (blkOk_by (N := ["most", "thing", "item", "after"]) (sc := defScope sAsc) (by decide +kernel)) (fun _ _ _ _ _ => pg_name (i := 2) scAsc.nd rfl (Or.inl rfl)) (fun _ _ _ _ _ => pts_nil)
            (fun _ _ _ _ _ => C8.pe_c cN hr (by decide) (by rfl) (pa_cons (pv 0) (pa_cons (pv 2) pa_nil)))) pa_nil))))))) (pss_one (ps_ret pe_bl)) pss_nil)
      (pss_one (ps_ret (pe_callB (cr_all rfl) (by rfl) T.all (by decide +kernel) (pa_cons (pe_lc (own := [("item", 2), ("after", 3)]) (g := gTup K 2 (gCons (gName 2) (gCons (gName 3) gNil))) (tt := tYes) rfl scAsc.nd (RZ.pi_zipA (by rfl) M.zip (pa_cons (pv 1) (pa_cons (pe_slice sl_tupA (pv 1) (po_some pe_int) po_none) pa_nil))) (blkOk_by (N := ["most", "thing", "item", "after"]) (sc := defScope sAsc) (by decide +kernel))
          (fun _ _ _ _ _ => pg_tup rfl (pgs_cons (pg_name (i := 2) scAsc.nd rfl (Or.inl rfl)) (pgs_cons (pg_name (i := 3) scAsc.nd rfl (Or.inl rfl)) pgs_nil))) (fun _ _ _ _ _ => pts_nil) (fun _ _ _ _ _ => pe_cmpR op_lt (pv 2) (pv 3) (nomark _))) pa_nil)))), ?_⟩
    rcases kt with ⟨kt, nt⟩ | ⟨kt, a, xs, rfl, ha, it⟩
    · refine ⟨_, rfl, x, .ty "tuple", t, .type "tuple", _, rfl, .ty _, ty, kt, _, rfl, ?_⟩
      refine iteT (iteT ?_)
      refine k false H ⟨fun z => Bool.noConfusion z, fun ⟨c, ns, e, hc, _⟩ => by obtain ⟨o, h1, h2⟩ := nt c e; rw [hc] at h1; cases h1; exact absurd rfl (h2 _)⟩ Ext.rfl'
    · refine ⟨_, rfl, _, .ty "tuple", t, .type "tuple", _, rfl, .ty _, ty, kt, _, rfl, ?_⟩
      have len := sm a xs rfl ha
      refine iteF ?_
      refine ⟨_, rfl, a, rfl, ⟨_, SqT.of ha⟩, fun D hD => ?_⟩
      have hda : a ≠ D := ne_of_none ha hD
      refine lc_tup (K := K) (a := a) (xs := xs) (fun i H' => H' = upd H D (.lst (((xs.take i).map (numV 29)).map V.bl))) (by simp) (fun i H' _ e => by subst e; exact SqT.of (by rw [upd_ne hda]; exact ha)) ?_ ?_
      · rintro i y H' hi rfl
        refine ⟨rfl, tyes_in ?_⟩
        have hy : y ∈ xs := List.mem_of_getElem? hi
        have it' : ∀ y ∈ xs, Th K H 0 y := it
        have ty0 : Th K (upd H D (.lst (((xs.take i).map (numV 29)).map V.bl))) 0 y := (it' y hy).ext (Ext.upd hD)
        refine ⟨_, rfl, _, rfl, 29, y, rfl, ty0, _, upd_same, small1000 (by simp; omega), ?_⟩
        rw [upd_upd, List.take_succ, hi]
        simp
      · rintro H' rfl
        rw [List.take_of_length_le (Nat.le_refl _)]
        have e1 : Ext H (upd H D (.lst ((xs.map (numV 29)).map V.bl))) := Ext.upd hD
        have hD1 : (upd H D (.lst ((xs.map (numV 29)).map V.bl))) D = some (.lst ((xs.map (numV 29)).map V.bl)) := upd_same
        generalize upd H D (.lst ((xs.map (numV 29)).map V.bl)) = H1 at *
        cases ball : (xs.map (numV 29)).all id with
        | false =>
          refine ⟨D, _, rfl, SqL.of hD1, false, congrArg V.bl ball, ?_⟩
          refine iteT ?_
          refine k false H1 ⟨fun z => Bool.noConfusion z, fun ⟨c, ns, e, hc, lo⟩ => ?_⟩ e1
          cases e
          rw [ha] at hc
          cases hc
          have : (List.map (numV 29) (List.map V.int ns)).all id = true := List.all_eq_true.mpr fun b hb => by
            obtain ⟨y, hy, rfl⟩ := List.mem_map.mp hb
            obtain ⟨n, hn, rfl⟩ := List.mem_map.mp hy
            exact numV_true.mpr ⟨n, rfl, (lo.1 n hn).1, (lo.1 n hn).2⟩
          rw [this] at ball
          cases ball
        | true =>
          refine ⟨D, _, rfl, SqL.of hD1, true, congrArg V.bl ball, ?_⟩
          refine iteF ?_
          obtain ⟨ns, rfl, low⟩ := low_ints fun y hy => List.all_eq_true.mp ball (numV 29 y) (List.mem_map_of_mem hy)
          refine ⟨_, rfl, _, rfl, 1, rfl, ?_⟩
          dsimp only [tNoPart]
          refine sl_any (K := K) (lo := some 1) (hi := none) (e1 _ _ ha) fun q H2 e3 hq => ?_
          have ct : cutV (ns.map V.int) (some 1) none = ns.tail.map V.int := by
            unfold cutV
            rw [show (1 : Int) = ((1 : Nat) : Int) from rfl, HT.sIx_nat, HT.sIx_none, List.take_of_length_le (by rw [List.length_drop]; exact Nat.le_refl _)]
            cases ns with
            | nil => rfl
            | cons n r =>
              rw [show min 1 (List.map V.int (n :: r)).length = 1 by simp]
              rfl
          rw [ct] at hq
          have ha2 := e3 _ _ (e1 _ _ ha)
          refine ⟨a, q, _, _, rfl, .inr ⟨SqT.of ha2, SqT.of hq, fun D2 nD2 => ?_⟩⟩
          refine lc_zipM (K := K) (a := a) (b := q) (xs := ns.map V.int) (ys := ns.tail.map V.int) (by rw [List.length_map, List.length_map, List.length_tail]; omega) (fun i H' => Ext H2 H' ∧ H' D2 = some (.lst ((((ns.zip ns.tail).take i).map fun p => decide (p.1 < p.2)).map V.bl))) ⟨Ext.upd nD2, upd_same⟩ (fun i H' z => ⟨SqT.of (z.1 _ _ ha2), SqT.of (z.1 _ _ hq)⟩) ?_ ?_
          · rintro i u v t' H' hu hv ⟨ex, hD2⟩ nt'
            obtain ⟨n, hn, rfl⟩ := map_int_get hu
            obtain ⟨m, hm, rfl⟩ := map_int_get hv
            refine ⟨t', _, rfl, SqT.of upd_same, rfl, _, _, rfl, _, _, rfl, rfl, rfl, tyes_in ?_⟩
            have hz : (ns.zip ns.tail)[i]? = some (n, m) := List.getElem?_zip_eq_some.mpr ⟨hn, hm⟩
            have li := (List.getElem?_eq_some_iff.mp hn).1
            rw [List.length_map] at len
            refine ⟨_, rfl, _, rfl, _, _, rfl, rfl, _, Ext.upd nt' _ _ hD2, small1000 (by rw [List.length_map, List.length_map, List.length_take]; omega), fun b' o eo => ?_, ?_⟩
            · rw [upd_ne (ne_of_none eo nD2)]
              exact Ext.upd nt' _ _ (ex _ _ eo)
            · rw [upd_same, List.take_succ, hz, List.map_append, List.map_append]
              rfl
          · rintro H' ⟨ex, hD2⟩
            have lz : (ns.zip ns.tail).length ≤ (ns.tail.map V.int).length := by rw [List.length_zip, List.length_map]; omega
            rw [List.take_of_length_le lz] at hD2
            refine ⟨D2, _, rfl, SqL.of hD2, ?_⟩
            refine k _ H' ?_ (e1.trans (e3.trans ex))
            constructor
            · intro z
              refine ⟨a, ns, rfl, ha, low, (adj_pairwise ns).mp fun p hp => ?_⟩
              have := List.all_eq_true.mp z (decide (p.1 < p.2)) (List.mem_map_of_mem hp)
              exact of_decide_eq_true this
            · rintro ⟨c, ms, e, hc, _, pw⟩
              cases e
              rw [ha] at hc
              injection hc with hc
              injection hc with hc
              rw [← int_inj hc] at pw
              refine List.all_eq_true.mpr fun bb hb => ?_
              obtain ⟨p, hp, rfl⟩ := List.mem_map.mp hb
              exact decide_eq_true ((adj_pairwise ns).mpr pw p hp)
end
end T39

set_option Elab.async false
set_option linter.all false
set_option maxRecDepth 100000
set_option maxHeartbeats 4000000
set_option pp.maxSteps 60
/-! Exceptions and equality of own classes. -/
namespace T39
open PySem L2
section
open PySem.Spec PyProof.Rows
structure ExIs (K : PySem.W.Frag) (C : Addr) : Prop where
  cls : (PySem.W.clsIn K C).isSome = true
  ga : PySem.W.findIn K (.ref C) "__getattribute__" = some (some (.builtin "BaseException.__getattribute__"))
  gt : PySem.W.findIn K (.ref C) "__getattr__" = some none
  sb : PySem.W.subIn K (.ref C) (.type "BaseException") = some true
  ha : PySem.W.findIn K (.ref C) "__class__" = some (some (.builtin "object.__class__"))
  hn : PySem.W.specialIn K (.builtin "object.__class__") "__get__" = some (some (.builtin "getset_descriptor.__get__"))
  ht : PySem.W.takesIn K (.builtin "object.__class__") = some true
  hm : PySem.W.mroIn K C (.type "object") = some true
variable {X : Cx} {pins : List (Addr × Obj)} {σ : L2.St} {H : Hp} {s : Shared} {a C : Addr} {fs : List (Str × V)}
/-- an exception made and kept -/
def tExv (C : Addr) (sp : Sp) (t : TA) : TE := fun σ H Q => t σ H fun vs H1 => vs.length ≤ 1000 ∧ ∀ a, H1 a = none → sp (.ref a :: vs) (upd H1 a (exo a C none)) (fun v H2 => v = .non ∧ Q (.ref a) H2) E0
variable {CX : CXT} {x : Str} {fI : Addr} {k : Nat} {fd : FuncData} {ps : List Str} {sp : Sp} {e : Expr} {es : List Expr} {ta : TA} {p pos : Pos}
theorem run_exv (T : OexC X.K C) (hi : PySem.W.findIn X.K (.ref C) "__init__" = some (some (.ref fI))) (ht : PySem.W.typeIn X.K (.ref fI) = some (.type "function"))
    (G : FnOk X.prog X.w X.K X.mg X.base CX k fI fd ps sp) (hr : Room (k + 1) X.A) (hb : Binds X.K fd ps []) (hx : Passes CX X E0) {vs : List V} {us : List Value} {H1 : Hp} {s1 : Shared} {Q : VK} (I1 : Inv X pins σ H1 s1) (r1 : Vals vs us) (hz : vs.length ≤ 1000)
    (q1 : ∀ a, H1 a = none → sp (.ref a :: vs) (upd H1 a (exo a C none)) (fun v H2 => v = .non ∧ Q (.ref a) H2) E0) : wpAny (model X.prog X.w) X.A (call (.ref C) us) (EP X pins σ Q) X.xe s1 := by
  obtain ⟨_, _, _, _, bm, _, _, _, _, _, _, _, _, _, _, inCls, mroOk⟩ := T.cls
  obtain ⟨h0, gs, dr, tk, os⟩ := s1
  let o := h0.objs.size + 1
  let h1 := (h0.push (PySem.W.kdv_tup us)).push (PySem.HandSPX.excO C h0.objs.size)
  have new : H1 o = none := I1.hok.fresh (Nat.le_succ _)
  have old : ∀ b u, h0.get? b = some u → h1.get? b = some u := fun b u q => Heap.get?_push_of_some _ (Heap.get?_push_of_some _ q)
  have there : h1.get? o = some (PySem.HandSPX.excO C h0.objs.size) := by
    show ((h0.push (PySem.W.kdv_tup us)).push (PySem.HandSPX.excO C h0.objs.size)).get? (h0.objs.size + 1) = _
    heap_get
  have J : Inv X pins σ (upd H1 o (exo o C none)) ⟨h1, gs, dr, tk, os⟩ := I1.laid (t' := tk) old (Nat.le_succ _) (exo_ok there)
  have asked := q1 o new
  have rr : Vals (V.ref o :: vs) (Value.ref o :: us) := .cons rfl r1
  have len : (Value.ref o :: us).length = ps.length := rr.length ▸ G.len _ _ _ _ asked
  have bound := hb _ (Value.ref o :: us) J.kIn (by rw [List.append_nil]; exact len)
  rw [List.append_nil] at bound
  have few : us.length ≤ sizeLine := by
    have q : us.length = vs.length := (Paired.length r1).symm
    rw [q, sizeLine_eq]
    omega
  have body := G.run _ X.stack _ _ ⟨Value.ref o :: us, []⟩ _ _ _ E0 (hr.make C us []) (J.env0.make C us []) bound rr asked
  refine wpAny_call (PySem.HandSPX.call_own F.excBase_ValueError (fun Y => PySem.HandSPX.refsVE_contains Y bm mroOk) (I1.kIn _ _ inCls) (PySem.W.looks_findIn I1.kIn hi) (fun self => PySem.W.bind_fn I1.kIn self ht) few (codeAny_mono body ?_))
  intro out s2 z
  match out, z with
  | .error er, z => exact hx pins σ _ _ er s2 J z
  | .ok (.ret u), z =>
    obtain ⟨v, H2, J2, rv, ev, qq⟩ := J.after z
    subst ev
    exact ⟨rv, .ref o, H2, J2, rfl, qq⟩
  | .ok .next, z => exact z.elim
  | .ok .brk, z => exact z.elim
  | .ok .cont, z => exact z.elim
theorem pe_exv0 (T : OexC X.K C) (iC : PySem.W.findIn X.K (.ref C) "__init__" = some (some (.ref fI))) (tI : PySem.W.typeIn X.K (.ref fI) = some (.type "function"))
    (F1 : FnOk X.prog X.w X.K X.mg X.base CX k fI fd ps sp) (hr : Room (k + 1) X.A) (hb : Binds X.K fd ps []) (hx : Passes CX X E0) (hg : Gl X x) (hm : X.mg x = some (.ref C))
    (hdb : (x == ("__debug__" : Str)) = false := by decide) :
    PE X (.Call (.Name x p) [] [] pos) (tExv C sp tNil) := by
  refine ⟨fun pins s σ H Q I h => ?_⟩
  refine wpAny_Call_Name_kw (ld_glob I hg hm ?_ hdb)
  obtain ⟨hz, q1⟩ := h
  exact PySem.W.callWith_K0 I.kIn T.kC (run_exv (us := []) T iC tI F1 hr hb hx I .nil hz q1)
end
section
open PySem.Spec PyProof.Rows
/-- raising an exception without fields that has just been made -/
theorem pmk_v {X : Cx} {e : Expr} {te : TE} (none' : X.ex = []) (he : PE X e te) :
    PMk X e (fun τ H Q => te τ H fun x J => ∃ a C, x = .ref a ∧ J a = some (exo a C none) ∧ X.H_0 a = none ∧ OexC X.K C ∧ Q (.ref C) none (delH J a)) := by
  intro pins s τ H Q I want
  refine thn (he.run pins s τ H _ I want) fun u s1 ⟨v, J, I1, r, a, C, ex, ha, h0, T, z⟩ => ?_
  subst ex
  obtain rfl : u = Value.ref a := r
  obtain ⟨t1, there⟩ := exo_at I1.hok ha
  obtain ⟨G, le, gone, I2⟩ := I1.untrack ha (fr0_none h0) none'
  exact ⟨a, _, _, { s1 with heap := G }, delH J a, .ref C, none, rfl, I2, le, gone, there, ⟨rfl, rfl⟩, rfl, rfl, delH_same, rfl, I1.bare, raises_own T.exC T.tyC, z⟩
theorem ps_raise_v {X : Cx} {pos : Pos} (H0 : Hp) (K0 : PySem.W.Frag) {W : WX} {e : Expr} {te : TE} (tk : Takes X W) (e0 : X.H_0 = H0) (eK : X.K = K0) (he : PE X e te) (calm : X.calm = true := by rfl) (none' : X.ex = [] := by rfl) :
    PS X (.Raise (some e) none pos) (fun _ τ H => te τ H fun x J => ∃ a C, x = .ref a ∧ J a = some (exo a C none) ∧ H0 a = none ∧ OexC K0 C ∧ W (.ref C) none τ (delH J a)) := by
  subst e0 eK
  exact ps_raise calm tk (pmk_v none' he)
end
section
open PySem.Spec PyProof.Rows
abbrev Clause := Value × (Addr → Value → Option Addr → TS)
/-- the ends of a suite whose name stands in slot i: the slot is empty behind it -/
def offSlot (i : Nat) (D : Ends) : Ends := { nx := fun τ J => D.nx (τ.set i none) J, rt := D.rt, bk := fun τ J => D.bk (τ.set i none) J, ct := fun τ J => D.ct (τ.set i none) J }
/-- what clauses 'except .. as name' wish of an exception, from the first on -/
def wEach (K : PySem.W.Frag) (i : Nat) (D : Ends) : List Clause → WX
  | [] => fun _ _ _ _ => False
  | q :: r => fun cls d τ J => ∃ b, PySem.W.exmOne K cls q.1 = some b ∧ if b = true then ∀ a, J a = none → q.2 a cls d (offSlot i D) (τ.set i (some (.ref a))) J else wEach K i D r cls d τ J
inductive EachOk (X : Cx) (n : Str) : List ExceptHandler → List Clause → Prop
  | nil {hs : List ExceptHandler} : EachOk X n hs []
  | cons {x : Str} {k : Value} {ts : Addr → Value → Option Addr → TS} {st : Stmt} {rest : List Stmt} {p p' : Pos} {hs : List ExceptHandler} {qs : List Clause} (names : Names X x k)
      (suite : ∀ (a : Addr) (oe : Obj) (cls : Value) (d : Option Addr) (pn : List (Addr × Obj)), Zc cls d oe → (∃ vs, oe.data = .fields vs) → PSs (X.suite a ((a, oe) :: pn)) (st :: rest) (ts a cls d)) (more : EachOk X n hs qs) :
      EachOk X n (.ExceptHandler (some (.Name x p)) (some n) (st :: rest) p' :: hs) ((k, ts) :: qs)
variable {X : Cx} {body : List Stmt} {hs : List ExceptHandler} {h0 : ExceptHandler} {qs : List Clause} {n : Str} {i : Nat} {pos : Pos} {tb : WX → TS}
theorem ps_try_each (stk : X.stack = X.env :: X.outer) (frm : X.env.frame = some X.env.locals) (nd : X.N.Nodup) (hi : X.N[i]? = some n) (loc : X.env.kindOf n = some .local)
    (hb : ∀ (W : WX) (pn : List (Addr × Obj)) (xe : Value → Shared → Prop), Takes (X.tr pn xe) W → PassesOwn (model X.prog X.w) X.A X.env xe → PSs (X.tr pn xe) body (tb W)) (hk : EachOk X n (h0 :: hs) qs) :
    PS X (.Try body (h0 :: hs) [] [] pos) (fun D τ J => tb (wEach X.K i D qs) D τ J) := by
  constructor
  intro pins s τ H D I want
  have ok := I.ok
  have top : X.A.frames = some (X.env :: X.outer) := by rw [ok.frames, stk]
  refine wpAny_Try_except (wpAny_mono ((hb (wEach X.K i D qs) (X.pn ++ pins) _ (fun u s' caught => ?_) PassesOwn.looking).run [] s τ H D (I.toTry _) want) ?_ fun _ _ z => z)
  · obtain ⟨a, B, sI, pins', τ', H', cls, d, rfl, J0, nb, up, sky, na, os, bare, wish⟩ := caught
    have J := J0.ofTry ok
    rw [stk] at sky
    show wpAny _ _ (noteFrame (.ref a) X.env) _ _ _
    refine Sky.land Zc.steady top frm sky fun h3 fl3 up3 => ?_
    have J3 : Inv X pins τ' H' { s' with heap := h3 } := J.landed nb fl3.1 (up.trans up3) os bare
    obtain ⟨oe3, vs3, at3, z3, f3⟩ := fl3.there
    have off : a ∉ frs (X.env :: X.outer) := fun hm => by
      obtain ⟨_, o', q', nf⟩ := fl3.2.2.1.mem hm
      rw [at3] at q'
      cases q'
      exact nf _ f3
    have aL : a ≠ X.env.locals := fun q => off (List.mem_filterMap.mpr ⟨X.env, List.mem_cons_self, by rw [frm, q]⟩)
    have aF : a ∉ X.fs := fun hm => by
      obtain ⟨e, he, q⟩ := List.mem_filterMap.mp hm
      exact off (List.mem_filterMap.mpr ⟨e, List.mem_cons_of_mem _ he, q⟩)
    have S3 := J3.suite at3 f3 na aL aF
    suffices each : ∀ {ks : List ExceptHandler} {ls : List Clause}, EachOk X n ks ls → wEach X.K i D ls cls d τ' H' → wpAny (model X.prog X.w) X.A (handleBy (.ref a) X.env ks) (SP X pins D) X.xe { s' with heap := h3 } from each hk wish
    intro ks ls hk
    induction hk with
    | nil => exact fun z => z.elim
    | @cons x kk ts st rest p p' ks2 ls2 names suite more ih =>
      rintro ⟨b, isOne, next⟩
      have ty : PySem.W.Looks (model X.prog X.w) h3 (typeOf (.ref a)) cls := fun A Q E s k q => wpAny_typeOf_ref (k _ _ at3) (by rw [z3.1]; exact q)
      have exm := PySem.W.exm_one (M := model X.prog X.w) J3.kIn ty isOne
      have reads : ∀ {Q : Value → Shared → Prop} {E : Value → Shared → Prop}, Q kk { s' with heap := h3 } → wpAny (model X.prog X.w) (X.A.mark (some (.ref a))) (eval (.Name x p) X.env) Q E { s' with heap := h3 } := fun {Q E} z => by
        obtain ⟨gl, nodbg, m | ⟨m, v, nn⟩⟩ := names
        · exact ld_glob (X := X.suite a ((a, oe3) :: (X.pn ++ pins))) S3 gl m z nodbg
        · exact ld_blt (X := X.suite a ((a, oe3) :: (X.pn ++ pins))) S3 gl m v z nn nodbg
      refine wpAny_handleBy_cons (codeAny_handlers_test (reads (exm.here ?_))) (by intro z; cases z)
      cases b with
      | false => exact ih next
      | true =>
        refine codeAny_handlers_suite_as (HandSPX.lands_againZ fl3 fun h4 fl4 up4 => ?_)
        have J4 : Inv X pins τ' H' { s' with heap := h4 } := J.landed nb fl4.1 ((up.trans up3).trans up4) os bare
        obtain ⟨oe4, vs4, at4, z4, f4⟩ := fl4.there
        have S4 := J4.suite at4 f4 na aL aF
        refine store_ok (X := X.suite a ((a, oe4) :: (X.pn ++ pins))) (v := .ref a) S4 nd hi (.inl loc) rfl (fun s5 S5 => ?_) (.inr loc)
        refine wpAny_mono ((suite a oe4 cls d (X.pn ++ pins) z4 ⟨_, f4⟩).run [] s5 _ H' _ S5 (next a na)) (fun f s6 fin => ?_) fun _ _ z => z.elim
        have gone : ∀ {τ6 : L2.St} {H6 : Hp} {Q : Shared → Prop}, Inv (X.suite a ((a, oe4) :: (X.pn ++ pins))) [] τ6 H6 s6 → (∀ s7, Inv X pins (τ6.set i none) H6 s7 → Q s7) →
            wpAny (model X.prog X.w) X.A (do bindName X.env n .none; unbindBehindTheSuite X.env n p') (fun _ s7 => Q s7) X.xe s6 := fun S6 k => gone_ok (S6.unsuite ok) nd hi loc k
        match f, fin with
        | .next, ⟨τ6, H6, S6, z⟩ => exact gone S6 fun s7 J7 => ⟨_, _, J7, z⟩
        | .brk, ⟨τ6, H6, S6, z⟩ => exact gone S6 fun s7 J7 => ⟨_, _, J7, z⟩
        | .cont, ⟨τ6, H6, S6, z⟩ => exact gone S6 fun s7 J7 => ⟨_, _, J7, z⟩
        | .ret u, ⟨v6, τ6, H6, S6, r6, z⟩ => exact gone S6 fun s7 J7 => ⟨_, _, _, J7, r6, z⟩
  · intro f s1 fin
    match f, fin with
    | .next, ⟨τ', H', J', z⟩ => exact wpAny_execs_nil ⟨τ', H', J'.ofTry ok, z⟩
    | .brk, ⟨τ', H', J', z⟩ => exact ⟨τ', H', J'.ofTry ok, z⟩
    | .cont, ⟨τ', H', J', z⟩ => exact ⟨τ', H', J'.ofTry ok, z⟩
    | .ret u, ⟨v, τ', H', J', r, z⟩ => exact ⟨v, τ', H', J'.ofTry ok, r, z⟩
end
section
open PySem.Spec PyProof.Rows
variable {X : Cx} {CX : CXT} {k : Nat} {f C : Addr} {fd : FuncData} {ps : List Str} {sp : Sp} {E : L2.St → XK} {x : Str} {p pos : Pos} {e : Expr} {es : List Expr} {t : TA}
def tMakeS (C : Addr) (sp : Sp) (E : L2.St → XK) (t : TA) : TE := fun σ H Q => t σ H fun vs H1 => ∀ (o d : Addr), H1 o = none → H1 d = none → d ≠ o → sp (.ref o :: vs) (upd (upd H1 d (.own o)) o (.ins C d [])) (fun v H2 => v = .non ∧ Q (.ref o) H2) (E σ)
theorem pe_makeS (M : Mk X.K C f) (F : FnOk X.prog X.w X.K X.mg X.base CX k f fd ps sp) (hr : Room (k + 1) X.A) (hg : Gl X x) (hm : X.mg x = some (.ref C)) (hb : Binds X.K fd ps []) (hx : ∀ σ, PassesAt CX X σ (E σ))
    (ha : PA X (e :: es) t) (hdb : (x == ("__debug__" : Str)) = false := by decide) (he : starEach (e :: es) X.env = (false, eval e X.env) :: starEach es X.env := by rfl) (hpl : (backTo pos (starEach es X.env)).any (·.1) = false := by rfl) :
    PE X (.Call (.Name x p) (e :: es) [] pos) (tMakeS C sp E t) := by
  constructor
  intro pins s σ H Q I h
  refine wpAny_Call_Name_kw (ld_glob I hg hm ?_ hdb)
  refine PySem.W.callWith_K (h₀ := X.base) I.ok.mod.kin M.kp (thn (ha.run pos pins s σ H _ I h) ?_) he hpl
  rintro us s1 ⟨vs, H1, I1, r, q⟩
  refine ⟨I1.kIn, ?_⟩
  let o := s1.heap.objs.size + 1
  have q' := q o s1.heap.objs.size (I1.hok.fresh (Nat.le_succ _)) (I1.hok.fresh (Nat.le_refl _)) (Nat.ne_of_lt (Nat.lt_succ_self _))
  have J := Inv.made (C := C) I1
  have rr : Vals (V.ref o :: vs) (Value.ref o :: us) := .cons rfl r
  have len : (Value.ref o :: us).length = ps.length := rr.length ▸ F.len _ _ _ _ q'
  have bind := hb _ (Value.ref o :: us) J.kIn (by rw [List.append_nil]; exact len)
  rw [List.append_nil] at bind
  refine wpAny_call (make_map (f := f) I1.kIn M.makes M.init (beq_iff_eq.mp M.fn) (codeAny_mono (F.run _ X.stack _ _ ⟨Value.ref o :: us, []⟩ _ _ _ (E σ) (hr.make C us []) (J.env0.make C us []) bind rr q') ?_))
  intro out s2 z
  match out, z with
  | .error er, z => exact hx σ pins _ _ er s2 J z
  | .ok (.ret u), z =>
    obtain ⟨v, H2, J2, rv, ev, qq⟩ := J.after z
    subst ev
    exact ⟨rv, .ref o, H2, J2, rfl, qq⟩
  | .ok .next, z => exact z.elim
  | .ok .brk, z => exact z.elim
  | .ok .cont, z => exact z.elim
end
structure BadC (K : PySem.W.Frag) (mg : Str → Option Value) (C fI : Addr) : Prop where
  ex : OexC K C
  iC : PySem.W.findIn K (.ref C) "__init__" = some (some (.ref fI))
  tI : PySem.W.typeIn K (.ref fI) = some (.type "function")
  gC : mg "BadTower" = some (.ref C)
  noI : PySem.W.findIn K (.ref C) "index" = some none
def spBad (C : Addr) : Sp := fun vs H Q _ => ∃ (a : Addr) (v : V), vs = [.ref a, v] ∧ H a = some (exo a C none) ∧ ∀ d, H d = none → d ≠ a → Q .non (upd (upd H d (exd d [("index", v)])) a (exo a C (some d)))
/-- what is left behind a raise BadTower(v) -/
theorem bad_end {H : Hp} {C a d : Addr} {v : V} (na : H a = none) (nd : (upd H a (exo a C none)) d = none) (ne : d ≠ a) :
    let H2 := upd (upd (upd H a (exo a C none)) d (exd d [("index", v)])) a (exo a C (some d))
    H2 a = some (exo a C (some d)) ∧ H2 d = some (exd d [("index", v)]) ∧ H d = none ∧ Ext H (upd (del H2 a) d (.xd [("index", v)])) := by
  have nd0 : H d = none := by rw [upd_ne ne] at nd; exact nd
  refine ⟨upd_same, by rw [upd_ne ne, upd_same], nd0, fun b o e => ?_⟩
  have h1 := ne_of_none e na
  have h2 := ne_of_none e nd0
  rw [upd_ne h2, del_ne h1, upd_ne h1, upd_ne h2, upd_ne h1]
  exact e
/-! ### == by an own __eq__ -/
section
open PySem.Spec PyProof.Rows
variable {X : Cx} {CX : CXT} {k : Nat} {f C : Addr} {fd : FuncData} {ps : List Str} {sp : Sp}
def rOwn (K : PySem.W.Frag) (C : Addr) (sp : Sp) : R2 := fun x y H Q => ∃ (a dx : Addr) (fs : List (Str × V)) (t : Value), x = .ref a ∧ H a = some (.ins C dx fs) ∧ TyX K H y t ∧ PySem.W.notFirst K C t = true ∧ sp [x, y] H (fun v H' => (∃ b, v = .bl b) ∧ Q v H') E0
theorem op_own (F : FnOk X.prog X.w X.K X.mg X.base CX0 k f fd ps sp) (hs : PySem.W.findIn X.K (.ref C) "__eq__" = some (some (.ref f))) (hf : PySem.W.isFn X.K (.ref f) = true) (hb : Binds X.K fd ps []) (hr : Room k X.A) : OpR X (compareOp .Eq) (rOwn X.K C sp) := by
  rintro pins s σ H x y v u Q I rx ry ⟨a, dx, fs, t, rfl, ha, ty, nf, q⟩
  obtain rfl : v = Value.ref a := rx
  obtain ⟨mA, J, _⟩ := ins_get I.hok ha
  obtain ⟨od, J, _⟩ := J.look
  obtain ⟨G, Z, g, _⟩ := kit_of I ry ty
  obtain ⟨m, fr⟩ := I.fr
  show wpAny (model X.prog X.w) X.A (richCompare .Eq (.ref a) u) (EP X pins σ Q) X.xe s
  refine PySem.W.cmp_K (op := .Eq) (tb := t) hr.units0 fr I.ok.mod.kin J (Z.ty _ _ I.kIn g) nf hs hf ?_
  refine wpAny_mono (run_fn (vs := [V.ref a, y]) F hr hb .nil pass0 I (.cons rfl (.cons ry .nil)) (show sp ([V.ref a, y] ++ []) H _ E0 from q)) ?_ fun _ _ x => x
  rintro w s' ⟨z, H', I', rz, ⟨b, rfl⟩, qz⟩
  cases rz
  exact ⟨.bl b, H', I', rfl, qz⟩
end
/-- what isinstance asks of a class for its instances -/
structure IsC (K : PySem.W.Frag) (C : Addr) : Prop where
  cl : Cls K C
  ha : PySem.W.findIn K (.ref C) "__class__" = some (some (.builtin "object.__class__"))
  hn : PySem.W.specialIn K (.builtin "object.__class__") "__get__" = some (some (.builtin "getset_descriptor.__get__"))
  ht : PySem.W.takesIn K (.builtin "object.__class__") = some true
  hm : PySem.W.mroIn K C (.type "object") = some true
theorem IsC.ty {K : PySem.W.Frag} {C : Addr} (I : IsC K C) {H : Hp} {p dx : Addr} {fs : List (Str × V)} (h : H p = some (.ins C dx fs)) : TyX K H (.ref p) (.ref C) := .base (.ins h I.cl I.ha I.hn I.ht I.hm)
theorem kit_same {K : PySem.W.Frag} {C : Addr} : PySem.W.kitOne K (.ref C) (.ref C) = some true := by
  unfold PySem.W.kitOne
  rw [if_pos (beq_self_eq_true _)]
def spF0 : Sp := fun vs H Q _ => ∃ a : Addr, vs = [.ref a] ∧ Q .non H
/-- an error class without fields: what the top has written of it -/
structure ErrC (K : PySem.W.Frag) (mg : Str → Option Value) (x : Str) (C fI : Addr) : Prop where
  ex : OexC K C
  iC : PySem.W.findIn K (.ref C) "__init__" = some (some (.ref fI))
  tI : PySem.W.typeIn K (.ref fI) = some (.type "function")
  gC : mg x = some (.ref C)
  is : ExIs K C
theorem ext_delH {H H1 : Hp} {a : Addr} {o : HO} (e : Ext H H1) (na : H1 a = none) : Ext H (delH (upd H1 a o) a) := fun b u h => by
  have h1 := e _ _ h
  have ne := ne_of_none h1 na
  unfold delH
  rw [if_neg ne, upd_ne ne]
  exact h1
theorem none_back {H H1 : Hp} {a : Addr} (e : Ext H H1) (na : H1 a = none) : H a = none := by
  cases q : H a with
  | none => rfl
  | some u => rw [e _ _ q] at na; cases na
/-- a raise of a class without fields -/
theorem raise0 {K : PySem.W.Frag} {mg : Str → Option Value} {C : Addr} {x : Str} {fI : Addr} (N : ErrC K mg x C fI) {H H1 : Hp} {E : XK} {τ : L2.St} (e : Ext H H1) (k : ∀ H', Ext H H' → E (.ref C) none H') :
    tExv C spF0 tNil τ H1 (fun x J => ∃ a C', x = .ref a ∧ J a = some (exo a C' none) ∧ H a = none ∧ OexC K C' ∧ E (.ref C') none (delH J a)) :=
  ⟨Nat.zero_le _, fun a na => ⟨a, rfl, rfl, a, C, rfl, upd_same, none_back e na, N.ex, k _ (ext_delH e na)⟩⟩
theorem u65 {k : Nat} {A : Around} (r : Room k A) : A.units + 65 < cLine := by
  have := r.un
  omega
end T39

set_option Elab.async false
set_option linter.all false
set_option maxRecDepth 100000
set_option maxHeartbeats 4000000
set_option pp.maxSteps 60
namespace T39
open PySem L2
section
variable {P : Program} {w : World} {K : PySem.W.Frag} {mg : Str → Option Value} {base : Heap}
theorem scCell : FnScope ["thing"] ["thing"] (defScope sCell) := ⟨rfl, rfl, rfl, by decide +kernel, rfl, by decide +kernel, by decide +kernel⟩
theorem ok_cell {f : Addr} {fd : FuncData} (F : L2.Fun K "is_cell" "is_cell" sCell f fd) (T : Gb mg) (M : TowC mg) (cA : Cal P w K mg base 3 "is_ascending" (spAsc K) []) : FnOk P w K mg base CX0 4 f fd ["thing"] (spCell K) := by
  obtain ⟨t29, h29⟩ := M.mn
  obtain ⟨t4, h4⟩ := M.mi
  refine F.ok scCell (fun vs H Q E h => ?_) (fun cdv A outer s H vs Q E hr h => ?_)
  · obtain ⟨x, rfl, _⟩ := h
    rfl
  · obtain ⟨x, rfl, th, sm, k⟩ := h
    refine ⟨_, pss_one (ps_ret (pe_and (C8.pe_c cA hr (by decide) (by rfl) (pa_cons (pe_glob (v := .int 29) rfl h29 ⟨_, rfl⟩) (pa_cons (pv 0) pa_nil))) (pe_one (pe_chain op_le op_le pe_int (pe_callB call_len_seq (by rfl) T.len PySem.boot_len (pa_cons (pv 0) pa_nil)) (pe_glob (v := .int 4) rfl h4 ⟨_, rfl⟩))))), ?_⟩
    refine ⟨_, rfl, x, rfl, th, sm, fun bb H1 hb e1 => ⟨_, rfl, ?_⟩⟩
    cases bb with
    | false => exact iteF (k false H1 ⟨fun z => Bool.noConfusion z, fun ⟨c, ns, e, hc, z⟩ => by have := hb.mpr ⟨c, ns, e, hc, z.2.2⟩; cases this⟩ e1)
    | true =>
      obtain ⟨c, ns, rfl, hc, low⟩ := hb.mp rfl
      refine iteT ⟨_, rfl, c, _, rfl, .inr (SqT.of (e1 _ _ hc)), _, _, rfl, rfl, _, rfl, ?_⟩
      rw [List.length_map]
      by_cases h1 : (1 : Int) ≤ (ns.length : Int)
      · rw [decide_eq_true h1]
        refine iteT ⟨_, _, rfl, rfl, ?_⟩
        refine k _ H1 ?_ e1
        constructor
        · intro z
          exact ⟨c, ns, rfl, hc, by omega, by have := of_decide_eq_true z; omega, low⟩
        · rintro ⟨c', ns', e, hc', z⟩
          cases e
          rw [hc] at hc'
          injection hc' with hc'
          injection hc' with hc'
          rw [← int_inj hc'] at z
          exact decide_eq_true (by have := z.2.1; omega)
      · rw [decide_eq_false h1]
        refine iteF (k false H1 ⟨fun z => Bool.noConfusion z, fun ⟨c', ns', e, hc', z⟩ => ?_⟩ e1)
        cases e
        rw [hc] at hc'
        injection hc' with hc'
        injection hc' with hc'
        rw [← int_inj hc'] at z
        exact absurd (by have := z.1; omega) h1
theorem scFaces : FnScope ["cell", "at"] ["cell"] (defScope sFaces) := ⟨rfl, rfl, rfl, by decide +kernel, rfl, by decide +kernel, by decide +kernel⟩
theorem ok_faces {f : Addr} {fd : FuncData} (F : L2.Fun K "faces" "faces" sFaces f fd) (T : Gb mg) : FnOk P w K mg base CX0 1 f fd ["cell"] spFaces := by
  refine F.ok scFaces (fun vs H Q E h => ?_) (fun cdv A outer s H vs Q E hr h => ?_)
  · obtain ⟨c, ns, rfl, _⟩ := h
    rfl
  · obtain ⟨c, ns, rfl, hc, n1, n4, k⟩ := h
    refine ⟨_, pss_cons (ps_if (pt_cmpR op_eq (pe_callB call_len_seq (by rfl) T.len PySem.boot_len (pa_cons (pv 0) pa_nil)) pe_int (nomark _)) (pss_one (ps_ret (pe_lst pa_nil))) pss_nil)
      (pss_one (ps_ret (pe_lc (own := [("at", 1)]) (g := gName 1) (tt := tYes) (te := tOp (rCatA K) (tSl (rSlA K) (tVar 0) tNoPart (tPart (tVar 1))) (tSl (rSlA K) (tVar 0) (tPart (tOp (rI0 fun i j => V.int (i + j)) (tVar 1) (tC (V.int 1)))) tNoPart)) rfl scFaces.nd (pi_range1 (by rfl) T.rng (pa_cons (pe_callB call_len_seq (by rfl) T.len PySem.boot_len (pa_cons (pv 0) pa_nil)) pa_nil)) (blkOk_by (N := ["cell", "at"]) (sc := defScope sFaces) (by decide +kernel))
          (fun _ _ _ _ _ => pg_name (i := 1) scFaces.nd rfl (Or.inl rfl)) (fun _ _ _ _ _ => pts_nil) (fun _ _ _ _ _ => pe_op op_catA (pe_slice sl_tupA (pv 0) po_none (po_some (pv 1))) (pe_slice sl_tupA (pv 0) (po_some (pe_op op_add (pv 1) pe_int)) po_none))))), ?_⟩
    refine ⟨_, rfl, c, _, rfl, .inr (SqT.of hc), rfl, _, rfl, ?_⟩
    refine ite2 (fun z => ?_) (fun z => ?_)
    · have e : ns.length = 1 := by have q := of_decide_eq_true z; rw [List.length_map] at q; injection q with q; omega
      refine ⟨Nat.zero_le _, fun l nl => ?_⟩
      refine k l [] _ (Ext.upd nl) upd_same ?_
      unfold facesL
      rw [if_pos e]
      exact .nil
    · have hne : ¬ ns.length = 1 := fun q => z (decide_eq_true (by rw [List.length_map, q]; rfl))
      refine ⟨_, rfl, c, _, rfl, .inr (SqT.of hc), (ns.length : Int), by rw [List.length_map], by omega, by omega, fun D nD => ?_⟩
      refine lc_range (lo := 0) (n := (ns.length : Int).toNat) (fun i H' => Ext H H' ∧ ∃ as : List Addr, H' D = some (.lst (as.map V.ref)) ∧ PT2 H' as ((allF ns).take i) ∧ as.length = i) ⟨Ext.upd nD, [], upd_same, .nil, rfl⟩ ?_ ?_
      · rintro i H' hi ⟨ex, as, hD, pt, le⟩
        have hi' : i < ns.length := by rw [Int.toNat_natCast] at hi; exact hi
        refine ⟨rfl, tyes_in ?_⟩
        have hc' := ex _ _ hc
        refine ⟨_, rfl, _, rfl, 0 + (i : Int), rfl, ?_⟩
        refine sl_any (K := K) (lo := none) (hi := some (0 + (i : Int))) hc' fun q1 H1 e1 h1 => ?_
        refine ⟨_, rfl, _, rfl, _, _, rfl, rfl, 0 + (i : Int) + 1, rfl, ?_⟩
        dsimp only [tNoPart]
        refine sl_any (K := K) (lo := some (0 + (i : Int) + 1)) (hi := none) (e1 _ _ hc') fun q2 H2 e2 h2 => ?_
        have l1 := cutV_length (ns.map V.int) none (some (0 + (i : Int)))
        have l2 := cutV_length (ns.map V.int) (some (0 + (i : Int) + 1)) none
        rw [List.length_map] at l1 l2
        refine cat_any (e2 _ _ h1) h2 (by omega) fun q3 H3 e3 h3 => ?_
        have e13 := e1.trans (e2.trans e3)
        rw [Int.zero_add, cut_erase hi'] at h3
        refine ⟨_, e13 _ _ hD, small1000 (by rw [List.length_map]; omega), fun b' o eo => ?_, as ++ [q3], ?_, ?_, by rw [List.length_append, le]; rfl⟩
        · rw [upd_ne (ne_of_none eo nD)]
          exact e13 _ _ (ex _ _ eo)
        · rw [upd_same, List.map_append]
          rfl
        · have hD3 := e13 _ _ hD
          rw [List.take_succ, allF_get hi']
          refine PT2.snoc (PT2.mono (fun b xs z => ?_) pt) ?_
          · rw [upd_ne (lst_ne hD z)]
            exact e13 _ _ z
          · rw [upd_ne (lst_ne hD3 h3)]
            exact h3
      · rintro H' ⟨ex, as, hD, pt, le⟩
        have la : (allF ns).length = (ns.length : Int).toNat := by unfold allF; rw [List.length_map, List.length_range, Int.toNat_natCast]
        rw [← la, List.take_of_length_le (Nat.le_refl _)] at pt
        have e : facesL ns = allF ns := by unfold facesL allF; rw [if_neg hne]
        rw [← e] at pt
        exact k D as H' ex hD pt
theorem scLFaces : FnScope ["_law_cell", "_law_at"] ["_law_cell"] (defScope sLFaces) := ⟨rfl, rfl, rfl, by decide +kernel, rfl, by decide +kernel, by decide +kernel⟩
theorem ok_lfaces {f : Addr} {fd : FuncData} (F : L2.Fun K "_law_faces" "_law_faces" sLFaces f fd) (T : Gb mg) : FnOk P w K mg base CX0 1 f fd ["_law_cell"] spFaces := by
  refine F.ok scLFaces (fun vs H Q E h => ?_) (fun cdv A outer s H vs Q E hr h => ?_)
  · obtain ⟨c, ns, rfl, _⟩ := h
    rfl
  · obtain ⟨c, ns, rfl, hc, n1, n4, k⟩ := h
    refine ⟨_, pss_one (ps_ret (pe_ifExp (pt_cmpR op_gt (pe_callB call_len_seq (by rfl) T.len PySem.boot_len (pa_cons (pv 0) pa_nil)) pe_int (nomark _))
      (pe_lc (own := [("_law_at", 1)]) (g := gName 1) (tt := tYes) (te := tOp (rCatA K) (tSl (rSlA K) (tVar 0) tNoPart (tPart (tVar 1))) (tSl (rSlA K) (tVar 0) (tPart (tOp (rI0 fun i j => V.int (i + j)) (tVar 1) (tC (V.int 1)))) tNoPart)) rfl scLFaces.nd (pi_range1 (by rfl) T.rng (pa_cons (pe_callB call_len_seq (by rfl) T.len PySem.boot_len (pa_cons (pv 0) pa_nil)) pa_nil)) (blkOk_by (N := ["_law_cell", "_law_at"]) (sc := defScope sLFaces) (by decide +kernel))
          (fun _ _ _ _ _ => pg_name (i := 1) scLFaces.nd rfl (Or.inl rfl)) (fun _ _ _ _ _ => pts_nil) (fun _ _ _ _ _ => pe_op op_catA (pe_slice sl_tupA (pv 0) po_none (po_some (pv 1))) (pe_slice sl_tupA (pv 0) (po_some (pe_op op_add (pv 1) pe_int)) po_none)))
      (pe_lst pa_nil))), ?_⟩
    refine ⟨_, rfl, c, _, rfl, .inr (SqT.of hc), _, _, rfl, rfl, _, rfl, ?_⟩
    refine ite2 (fun z => ?_) (fun z => ?_)
    · have hne : ¬ ns.length = 1 := by have q := of_decide_eq_true z; rw [List.length_map] at q; omega
      refine ⟨_, rfl, c, _, rfl, .inr (SqT.of hc), (ns.length : Int), by rw [List.length_map], by omega, by omega, fun D nD => ?_⟩
      refine lc_range (lo := 0) (n := (ns.length : Int).toNat) (fun i H' => Ext H H' ∧ ∃ as : List Addr, H' D = some (.lst (as.map V.ref)) ∧ PT2 H' as ((allF ns).take i) ∧ as.length = i) ⟨Ext.upd nD, [], upd_same, .nil, rfl⟩ ?_ ?_
      · rintro i H' hi ⟨ex, as, hD, pt, le⟩
        have hi' : i < ns.length := by rw [Int.toNat_natCast] at hi; exact hi
        refine ⟨rfl, tyes_in ?_⟩
        have hc' := ex _ _ hc
        refine ⟨_, rfl, _, rfl, 0 + (i : Int), rfl, ?_⟩
        refine sl_any (K := K) (lo := none) (hi := some (0 + (i : Int))) hc' fun q1 H1 e1 h1 => ?_
        refine ⟨_, rfl, _, rfl, _, _, rfl, rfl, 0 + (i : Int) + 1, rfl, ?_⟩
        dsimp only [tNoPart]
        refine sl_any (K := K) (lo := some (0 + (i : Int) + 1)) (hi := none) (e1 _ _ hc') fun q2 H2 e2 h2 => ?_
        have l1 := cutV_length (ns.map V.int) none (some (0 + (i : Int)))
        have l2 := cutV_length (ns.map V.int) (some (0 + (i : Int) + 1)) none
        rw [List.length_map] at l1 l2
        refine cat_any (e2 _ _ h1) h2 (by omega) fun q3 H3 e3 h3 => ?_
        have e13 := e1.trans (e2.trans e3)
        rw [Int.zero_add, cut_erase hi'] at h3
        refine ⟨_, e13 _ _ hD, small1000 (by rw [List.length_map]; omega), fun b' o eo => ?_, as ++ [q3], ?_, ?_, by rw [List.length_append, le]; rfl⟩
        · rw [upd_ne (ne_of_none eo nD)]
          exact e13 _ _ (ex _ _ eo)
        · rw [upd_same, List.map_append]
          rfl
        · have hD3 := e13 _ _ hD
          rw [List.take_succ, allF_get hi']
          refine PT2.snoc (PT2.mono (fun b xs z => ?_) pt) ?_
          · rw [upd_ne (lst_ne hD z)]
            exact e13 _ _ z
          · rw [upd_ne (lst_ne hD3 h3)]
            exact h3
      · rintro H' ⟨ex, as, hD, pt, le⟩
        have la : (allF ns).length = (ns.length : Int).toNat := by unfold allF; rw [List.length_map, List.length_range, Int.toNat_natCast]
        rw [← la, List.take_of_length_le (Nat.le_refl _)] at pt
        have e : facesL ns = allF ns := by unfold facesL allF; rw [if_neg hne]
        rw [← e] at pt
        exact k D as H' ex hD pt
    · have e : ns.length = 1 := by
        have q : ¬ (1 : Int) < ((ns.map V.int).length : Int) := fun q => z (decide_eq_true q)
        rw [List.length_map] at q
        omega
      refine ⟨Nat.zero_le _, fun l nl => ?_⟩
      refine k l [] _ (Ext.upd nl) upd_same ?_
      unfold facesL
      rw [if_pos e]
      exact .nil
theorem scLCell : FnScope ["_law_thing", "_law_last", "_law_number"] ["_law_thing"] (defScope sLCell) := ⟨rfl, rfl, rfl, by decide +kernel, rfl, by decide +kernel, by decide +kernel⟩
theorem isCell_len {H : Hp} {a : Addr} {xs : List V} (ha : H a = some (.tup xs)) (h : isCell H (.ref a)) : 1 ≤ xs.length ∧ xs.length ≤ 4 := by
  obtain ⟨c, ns, e, hc, z⟩ := h
  cases e
  rw [ha] at hc
  cases hc
  rw [List.length_map]
  exact ⟨z.1, z.2.1⟩
theorem ok_lcell {f : Addr} {fd : FuncData} (F : L2.Fun K "_law_is_cell" "_law_is_cell" sLCell f fd) (T : Gb mg) : FnOk P w K mg base CX0 1 f fd ["_law_thing"] (spCell K) := by
  refine F.ok scLCell (fun vs H Q E h => ?_) (fun cdv A outer s H vs Q E hr h => ?_)
  · obtain ⟨x, rfl, _⟩ := h
    rfl
  · obtain ⟨x, rfl, th, sm, k⟩ := h
    unfold Th at th
    obtain ⟨t, ty, ki, kb, kt⟩ := th
    refine ⟨_, pss_cons (ps_if (PW.pt (pw_or (pt_not (pt_val (pe_callB call_isi (by rfl) T.isi (by decide +kernel) (pa_cons (pv 0) (pa_cons (pe_bltn (v := .ty "tuple") (by rfl) T.tup (by decide +kernel) rfl) pa_nil)))))
        (pw_or1 (pt_not (pt_chain op_le op_le pe_int (pe_callB call_len_seq (by rfl) T.len PySem.boot_len (pa_cons (pv 0) pa_nil)) pe_int))))) (pss_one (ps_ret pe_bl)) pss_nil)
      (pss_cons (ps_set (i := 1) scLCell.nd rfl (Or.inl rfl) (pe_un un_neg pe_int))
      (pss_cons (ps_for PassesOwn.never rfl (pi_tup (pv 0)) (pg_name (i := 2) scLCell.nd rfl (Or.inl rfl))
        (pss_cons (ps_if (PW.pt (pw_or (pt_not (pt_val (pe_callB call_isi (by rfl) T.isi (by decide +kernel) (pa_cons (pv 2) (pa_cons (pe_bltn (v := .ty "int") (by rfl) T.int (by decide +kernel) rfl) pa_nil)))))
            (pw_or (pt_val (pe_callB call_isi (by rfl) T.isi (by decide +kernel) (pa_cons (pv 2) (pa_cons (pe_bltn (v := .ty "bool") (by rfl) T.bool (by decide +kernel) rfl) pa_nil))))
            (pw_or1 (pt_not (pt_chain op_lt op_lt (pv 1) (pv 2) pe_int)))))) (pss_one (ps_ret pe_bl)) pss_nil)
        (pss_one (ps_set (i := 1) scLCell.nd rfl (Or.inl rfl) (pv 2)))))
      (pss_one (ps_ret pe_bl)))), ?_⟩
    rcases kt with ⟨kt, nt⟩ | ⟨kt, a, xs, rfl, ha, it⟩
    · refine ⟨_, rfl, x, .ty "tuple", t, .type "tuple", _, rfl, .ty _, ty, kt, _, rfl, ?_⟩
      refine iteT (iteT ?_)
      refine k false H ⟨fun z => Bool.noConfusion z, fun ⟨c, ns, e, hc, _⟩ => by obtain ⟨o, h1, h2⟩ := nt c e; rw [hc] at h1; cases h1; exact absurd rfl (h2 _)⟩ Ext.rfl'
    · have it' : ∀ y ∈ xs, Th K H 0 y := it
      have bad : ¬ isCell H (.ref a) → Q (.bl false) H := fun no => k false H ⟨fun z => Bool.noConfusion z, fun z => (no z).elim⟩ Ext.rfl'
      refine ⟨_, rfl, _, .ty "tuple", t, .type "tuple", _, rfl, .ty _, ty, kt, _, rfl, ?_⟩
      refine iteF ⟨_, rfl, a, xs, rfl, .inr (SqT.of ha), _, _, rfl, rfl, _, rfl, ?_⟩
      by_cases h1 : (1 : Int) ≤ (xs.length : Int)
      · rw [decide_eq_true h1]
        refine iteT ⟨_, _, rfl, rfl, _, rfl, ?_⟩
        by_cases h4 : (xs.length : Int) ≤ 4
        · rw [decide_eq_true h4]
          refine iteF ?_
          refine ⟨1, rfl, ?_⟩
          refine ⟨_, rfl, a, rfl, ⟨_, SqT.of ha⟩, for_tup (K := K) (a := a) (xs := xs) (fun i σ' H' => H' = H ∧ ∃ (pre : List Int) (l : Int) (v : Option V), σ' = [some (.ref a), some (.int l), v] ∧ xs.take i = pre.map V.int ∧ Low pre ∧ -1 ≤ l ∧ (∀ n ∈ pre, n ≤ l) ∧ (l ∈ pre ∨ l = -1))
            ⟨rfl, [], -1, Option.none, rfl, rfl, ⟨fun n h => (by cases h), .nil⟩, by decide, fun n h => (by cases h), .inr rfl⟩ (fun i σ' H' _ z => by rw [z.1]; exact SqT.of ha) ?_ ?_⟩
          · rintro i y σ' H' hy ⟨rfl, pre, l, v, rfl, tk, low, l1, le, li⟩
            have ty0 := it' y (List.mem_of_getElem? hy)
            unfold Th at ty0
            obtain ⟨t', ty', ki', kb', _⟩ := ty0
            -- what a cell would say of this item
            have want : isCell H' (.ref a) → ∃ n, y = .int n ∧ l < n ∧ n ≤ 29 := by
              rintro ⟨c, ns, e, hc, z⟩
              cases e
              rw [ha] at hc
              injection hc with hc
              injection hc with hc
              rw [hc] at hy tk
              obtain ⟨n, hn, rfl⟩ := map_int_get hy
              rw [← List.map_take] at tk
              have ep := int_inj tk
              have bn := z.2.2.1 n (List.mem_of_getElem? hn)
              refine ⟨n, rfl, ?_, bn.2⟩
              rcases li with li | li
              · rw [← ep] at li
                obtain ⟨j, hj⟩ := List.mem_iff_getElem?.mp li
                have hjl := (List.getElem?_eq_some_iff.mp hj).1
                rw [List.length_take] at hjl
                rw [List.getElem?_take_of_lt (by omega)] at hj
                obtain ⟨q1, q2⟩ := List.getElem?_eq_some_iff.mp hj
                obtain ⟨q3, q4⟩ := List.getElem?_eq_some_iff.mp hn
                have := List.pairwise_iff_getElem.mp z.2.2.2 j i q1 q3 (by omega)
                rw [q2, q4] at this
                exact this
              · omega
            refine ⟨_, rfl, y, .ty "int", t', .type "int", _, rfl, .ty _, ty', ki', _, rfl, ?_⟩
            cases y with
            | int n =>
              refine iteF ⟨_, rfl, _, .ty "bool", t', .type "bool", _, rfl, .ty _, ty', kb', _, rfl, ?_⟩
              refine iteF ⟨_, rfl, _, rfl, _, _, rfl, rfl, _, rfl, ?_⟩
              by_cases h5 : l < n
              · rw [decide_eq_true h5]
                refine iteT ⟨_, _, rfl, rfl, _, rfl, ?_⟩
                by_cases h6 : n < 30
                · rw [decide_eq_true h6]
                  refine iteF ⟨_, rfl, rfl, pre ++ [n], n, _, rfl, ?_, ⟨fun m hm => ?_, ?_⟩, by omega, fun m hm => ?_, .inl (by simp)⟩
                  · rw [List.take_succ, hy, tk, List.map_append]
                    rfl
                  · rcases List.mem_append.mp hm with z | z
                    · exact low.1 m z
                    · rw [List.mem_singleton.mp z]
                      omega
                  · refine List.pairwise_append.mpr ⟨low.2, List.pairwise_singleton _ _, fun p hp q hq => ?_⟩
                    rw [List.mem_singleton.mp hq]
                    have := le p hp
                    omega
                  · rcases List.mem_append.mp hm with z | z
                    · have := le m z
                      omega
                    · rw [List.mem_singleton.mp z]
                      omega
                · rw [decide_eq_false h6]
                  refine iteT (bad fun z => ?_)
                  obtain ⟨n', e, _, b⟩ := want z
                  cases e
                  omega
              · rw [decide_eq_false h5]
                refine iteF ⟨_, rfl, iteT (bad fun z => ?_)⟩
                obtain ⟨n', e, b, _⟩ := want z
                cases e
                exact h5 b
            | bl b => exact iteF ⟨_, rfl, _, .ty "bool", t', .type "bool", _, rfl, .ty _, ty', kb', _, rfl, iteT (bad fun z => by obtain ⟨n', e, _⟩ := want z; cases e)⟩
            | _ => exact iteT (bad fun z => by obtain ⟨n', e, _⟩ := want z; cases e)
          · rintro σ' H' ⟨rfl, pre, l, v, rfl, tk, low, _⟩
            rw [List.take_of_length_le (Nat.le_refl _)] at tk
            subst tk
            rw [List.length_map] at h1 h4
            exact k true H' ⟨fun _ => ⟨a, pre, rfl, ha, by omega, by omega, low⟩, fun _ => rfl⟩ Ext.rfl'
        · rw [decide_eq_false h4]
          exact iteT (bad fun z => h4 (by have := (isCell_len ha z).2; omega))
      · rw [decide_eq_false h1]
        exact iteF ⟨_, rfl, iteT (bad fun z => h1 (by have := (isCell_len ha z).1; omega))⟩
end
end T39

set_option Elab.async false
set_option linter.all false
set_option maxRecDepth 100000
set_option maxHeartbeats 4000000
set_option pp.maxSteps 60
/-! Towers made, or what BadTower tells. -/
namespace T39
open PySem L2
abbrev sWE : Stmt := inClass (top 5) 0
abbrev sBad : Stmt := inClass (top 6) 0
abbrev sTowI : Stmt := inClass (top 13) 0
abbrev sTowE : Stmt := inClass (top 13) 1
/-! ### right towers -/
def Ok (pre : List (List Int)) (l : List Int) : Prop := CellL l ∧ l ∉ pre ∧ ∀ f ∈ facesL l, f ∈ pre
def Gd : List (List Int) → List (List Int) → Prop
  | _, [] => True
  | pre, l :: r => Ok pre l ∧ Gd (pre ++ [l]) r
def GoodT (ll : List (List Int)) : Prop := Gd [] ll
theorem gd_snoc : ∀ (pre r : List (List Int)) (l : List Int), Gd pre (r ++ [l]) ↔ Gd pre r ∧ Ok (pre ++ r) l
  | pre, [], l => by simp [Gd]
  | pre, a :: r, l => by
    have ih := gd_snoc (pre ++ [a]) r l
    show Ok pre a ∧ Gd (pre ++ [a]) (r ++ [l]) ↔ (Ok pre a ∧ Gd (pre ++ [a]) r) ∧ Ok (pre ++ a :: r) l
    rw [ih, List.append_assoc]
    exact ⟨fun ⟨x, y, z⟩ => ⟨⟨x, y⟩, z⟩, fun ⟨⟨x, y⟩, z⟩ => ⟨x, y, z⟩⟩
theorem good_snoc {r : List (List Int)} {l : List Int} : GoodT (r ++ [l]) ↔ GoodT r ∧ Ok r l := gd_snoc [] r l
def OkV (H : Hp) (ll : List (List Int)) (z : V) : Prop := ∃ (c : Addr) (ns : List Int), z = .ref c ∧ H c = some (.tup (ns.map V.int)) ∧ Ok ll ns
def GoodV (H : Hp) (y : V) : Prop := ∃ (b : Addr) (as : List Addr) (ll : List (List Int)), y = .ref b ∧ H b = some (.tup (as.map V.ref)) ∧ as.length ≤ 40 ∧ PT2 H as ll ∧ GoodT ll
def DueV (H : Hp) (y v : V) : Prop := (v = .int (-1) ∧ ¬ ∃ b xs, y = .ref b ∧ H b = some (.tup xs) ∧ xs.length ≤ 40) ∨
  ∃ (b : Addr) (xs : List V) (k : Nat) (z : V) (as : List Addr) (ll : List (List Int)), y = .ref b ∧ H b = some (.tup xs) ∧ xs.length ≤ 40 ∧ v = .int (k : Int) ∧ xs[k]? = some z ∧ xs.take k = as.map V.ref ∧ PT2 H as ll ∧ GoodT ll ∧ ¬ OkV H ll z
def Thing (K : PySem.W.Frag) (H : Hp) (y : V) : Prop := Th K H 2 y ∧ ∀ (b : Addr) (xs : List V), y = .ref b → H b = some (.tup xs) → xs.length ≤ 1000 ∧ ∀ z ∈ xs, Sm H z
theorem Th.items {K : PySem.W.Frag} {H : Hp} {n : Nat} {b : Addr} {xs : List V} (h : Th K H (n + 1) (.ref b)) (hb : H b = some (.tup xs)) : ∀ z ∈ xs, Th K H n z := by
  unfold Th at h
  obtain ⟨t, _, _, _, h⟩ := h
  rcases h with ⟨_, h⟩ | ⟨_, b', ys, e', hb', it⟩
  · obtain ⟨o, ho, no⟩ := h b rfl
    rw [ho] at hb
    cases hb
    exact absurd rfl (no xs)
  · cases e'
    rw [hb] at hb'
    cases hb'
    exact it
theorem Thing.ext {K : PySem.W.Frag} {H H' : Hp} {y : V} (e : Ext H H') (h : Thing K H y) : Thing K H' y := by
  refine ⟨h.1.ext e, fun b xs ey hb => ?_⟩
  subst ey
  have hb0 := h.1.tup_back e hb
  obtain ⟨h1, h2⟩ := h.2 b xs rfl hb0
  exact ⟨h1, fun z hz => (h2 z hz).ext e (h.1.items hb0 z hz)⟩
theorem PT2.inj {H : Hp} : ∀ {as : List Addr} {ll kk : List (List Int)}, PT2 H as ll → PT2 H as kk → ll = kk
  | _, _, _, .nil, .nil => rfl
  | _, _, _, .cons h r, .cons h' r' => by
    rw [h] at h'
    injection h' with h'
    injection h' with h'
    rw [int_inj h', PT2.inj r r']
theorem ref_inj : ∀ {as bs : List Addr}, as.map V.ref = bs.map V.ref → as = bs
  | [], [], _ => rfl
  | a :: as, b :: bs, h => by
    injection h with h1 h2
    injection h1 with h1
    rw [h1, ref_inj h2]
  | [], b :: bs, h => by cases h
  | a :: as, [], h => by cases h
/-- in a right tower each cell goes with those ahead -/
theorem gd_at : ∀ (pre r : List (List Int)) (k : Nat) (l : List Int), Gd pre r → r[k]? = some l → Ok (pre ++ r.take k) l
  | pre, [], k, l, _, h => by simp at h
  | pre, a :: r, 0, l, g, h => by
    have e : a = l := by simpa using h
    subst e
    simpa using g.1
  | pre, a :: r, k + 1, l, g, h => by
    have := gd_at (pre ++ [a]) r k l g.2 (by simpa using h)
    simpa using this
theorem p_take {α β : Type} {F : α → β → Prop} : ∀ {l : List α} {k : List β} (n : Nat), Paired F l k → Paired F (l.take n) (k.take n)
  | _, _, 0, r => .nil
  | _, _, n + 1, .nil => .nil
  | _, _, n + 1, .cons a r => .cons a (p_take n r)
theorem DueV.not_good {H : Hp} {y v : V} (d : DueV H y v) (g : GoodV H y) : False := by
  obtain ⟨b, as, ll, rfl, hb, hl, pt, gd⟩ := g
  rcases d with ⟨_, no⟩ | ⟨b', xs, k, z, as', ll', e, hb', _, _, hz, tk, pt', _, no⟩
  · exact no ⟨b, _, rfl, hb, by rw [List.length_map]; exact hl⟩
  · cases e
    rw [hb] at hb'
    cases hb'
    rw [← List.map_take] at tk
    have ea := ref_inj tk
    rw [← ea] at pt'
    have el := PT2.inj pt' (p_take k pt)
    rw [List.getElem?_map] at hz
    cases hk : as[k]? with
    | none => rw [hk] at hz; cases hz
    | some c =>
      rw [hk] at hz
      cases hz
      obtain ⟨l, hl', hc⟩ := pt.get hk
      refine no ⟨c, l, rfl, hc, ?_⟩
      rw [el]
      have := gd_at [] ll k l gd hl'
      simpa using this
theorem DueV.uniq {H : Hp} {y v v' : V} (d : DueV H y v) (d' : DueV H y v') : v = v' := by
  rcases d with ⟨rfl, no⟩ | ⟨b, xs, k, z, as, ll, rfl, hb, hl, rfl, hz, tk, pt, gd, nok⟩
  · rcases d' with ⟨rfl, _⟩ | ⟨b', xs', _, _, _, _, e, hb', hl', _⟩
    · rfl
    · exact absurd ⟨b', xs', e, hb', hl'⟩ no
  · rcases d' with ⟨rfl, no⟩ | ⟨b', xs', k', z', as', ll', e, hb', hl', rfl, hz', tk', pt', gd', nok'⟩
    · exact absurd ⟨b, xs, rfl, hb, hl⟩ no
    · cases e
      rw [hb] at hb'
      cases hb'
      -- the lesser one is in the prefix of the other
      have lemma1 : ∀ {i j : Nat} {x : V} {cs ds : List Addr} {mm nn : List (List Int)}, i < j → xs[i]? = some x → xs.take i = cs.map V.ref → PT2 H cs mm → xs.take j = ds.map V.ref → PT2 H ds nn → GoodT nn → OkV H mm x := by
        intro i j x cs ds mm nn lt hx tc pc td pd g
        have e1 : (ds.take i).map V.ref = cs.map V.ref := by rw [List.map_take, ← td, List.take_take, Nat.min_eq_left (Nat.le_of_lt lt), tc]
        have e2 := ref_inj e1
        have hx' : (ds.map V.ref)[i]? = some x := by rw [← td, List.getElem?_take_of_lt lt]; exact hx
        rw [List.getElem?_map] at hx'
        cases hk : ds[i]? with
        | none => rw [hk] at hx'; cases hx'
        | some c =>
          rw [hk] at hx'
          cases hx'
          obtain ⟨l, hl', hc⟩ := pd.get hk
          refine ⟨c, l, rfl, hc, ?_⟩
          have p1 := p_take i pd
          rw [e2] at p1
          rw [PT2.inj pc p1]
          have := gd_at [] nn i l g hl'
          simpa using this
      rcases Nat.lt_trichotomy k k' with l | l | l
      · exact (nok (lemma1 l hz tk pt tk' pt' gd')).elim
      · rw [l]
      · exact (nok' (lemma1 l hz' tk' pt' tk pt gd)).elim
theorem OkV.ext {H H' : Hp} {ll : List (List Int)} {z : V} (e : Ext H H') (h : OkV H ll z) : OkV H' ll z := by
  obtain ⟨c, ns, ez, hc, o⟩ := h
  exact ⟨c, ns, ez, e _ _ hc, o⟩
theorem OkV.back {K : PySem.W.Frag} {H H' : Hp} {n : Nat} {ll : List (List Int)} {z : V} (e : Ext H H') (t : Th K H n z) (h : OkV H' ll z) : OkV H ll z := by
  obtain ⟨c, ns, rfl, hc, o⟩ := h
  exact ⟨c, ns, rfl, t.tup_back e hc, o⟩
theorem pt_back {K : PySem.W.Frag} {H H' : Hp} {n : Nat} (e : Ext H H') : ∀ {as : List Addr} {ll : List (List Int)}, (∀ y ∈ as.map V.ref, Th K H n y) → PT2 H' as ll → PT2 H as ll
  | _, _, _, .nil => .nil
  | a :: as, _, t, .cons h r => .cons ((t (.ref a) List.mem_cons_self).tup_back e h) (pt_back e (fun y hy => t y (List.mem_cons_of_mem _ hy)) r)
theorem DueV.back {K : PySem.W.Frag} {H H' : Hp} {y v : V} (e : Ext H H') (t : Thing K H y) (d : DueV H' y v) : DueV H y v := by
  rcases d with ⟨ev, no⟩ | ⟨b, xs, k, z, as, ll, rfl, hb, hl, ev, hz, tk, pt, gd, nok⟩
  · exact .inl ⟨ev, fun ⟨b, xs, ey, hb, hl⟩ => no ⟨b, xs, ey, e _ _ hb, hl⟩⟩
  · have hb0 := t.1.tup_back e hb
    have it := t.1.items hb0
    refine .inr ⟨b, xs, k, z, as, ll, rfl, hb0, hl, ev, hz, tk, pt_back e (fun y hy => it y ?_) pt, gd, fun o => nok (o.ext e)⟩
    rw [← tk] at hy
    exact List.mem_of_mem_take hy
theorem GoodV.back {K : PySem.W.Frag} {H H' : Hp} {y : V} (e : Ext H H') (t : Thing K H y) (g : GoodV H' y) : GoodV H y := by
  obtain ⟨b, as, ll, rfl, hb, hl, pt, gd⟩ := g
  have hb0 := t.1.tup_back e hb
  exact ⟨b, as, ll, rfl, hb0, hl, pt_back e (t.1.items hb0) pt, gd⟩
def cf (y : V) : List (Str × V) := [("cells", y)]
theorem cf_cells (y : V) : (cf y).lookup ("cells" : Str) = some y := by rfl
def TowAt (CT : Addr) (H : Hp) (p b : Addr) : Prop := ∃ dx, H p = some (.ins CT dx (cf (.ref b)))
theorem TowAt.ext {CT p b : Addr} {H H' : Hp} (e : Ext H H') (h : TowAt CT H p b) : TowAt CT H' p b := h.imp fun _ z => e _ _ z
def spTow (K : PySem.W.Frag) (CT CB : Addr) : Sp := fun vs H Q E => ∃ (p dx : Addr) (y : V), vs = [.ref p, y] ∧ H p = some (.ins CT dx []) ∧ Thing K H y ∧
  (∀ (b : Addr) (H' : Hp), y = .ref b → GoodV H y → H' p = some (.ins CT dx (cf y)) → (∀ c o, c ≠ p → H c = some o → H' c = some o) → Q .non H') ∧
  (∀ (v : V) (d : Addr) (H' : Hp), DueV H y v → H d = none → H' d = some (.xd [("index", v)]) → Ext H H' → E (.ref CB) (some d) H')
structure TowK (K : PySem.W.Frag) (mg : Str → Option Value) (CT : Addr) : Prop where
  cl : Cls K CT
  nC : NoAttr K CT "cells"
  mgC : mg "Tower" = some (.ref CT)
section
variable {P : Program} {w : World} {K : PySem.W.Frag} {mg : Str → Option Value} {base : Heap}
theorem scWE : FnScope ["self"] ["self"] (defScope sWE) := ⟨rfl, rfl, rfl, by decide +kernel, rfl, by decide +kernel, by decide +kernel⟩
theorem ok_we {f : Addr} {fd : FuncData} (F : L2.Fun K "__init__" "WebError.__init__" sWE f fd) : FnOk P w K mg base CX0 1 f fd ["self"] spF0 := by
  refine F.ok scWE (fun vs H Q E h => ?_) (fun cdv A outer s H vs Q E hr h => ?_)
  · obtain ⟨a, rfl, _⟩ := h
    rfl
  · obtain ⟨a, rfl, k⟩ := h
    exact ⟨_, pss_one ps_pass, k⟩
theorem scBad : FnScope ["self", "index"] ["self", "index"] (defScope sBad) := ⟨rfl, rfl, rfl, by decide +kernel, rfl, by decide +kernel, by decide +kernel⟩
theorem ok_bad {f C : Addr} {fd : FuncData} (F : L2.Fun K "__init__" "BadTower.__init__" sBad f fd) (B : BadC K mg C f) : FnOk P w K mg base CX0 1 f fd ["self", "index"] (spBad C) := by
  refine F.ok scBad (fun vs H Q E h => ?_) (fun cdv A outer s H vs Q E hr h => ?_)
  · obtain ⟨a, v, rfl, _⟩ := h
    rfl
  · obtain ⟨a, v, rfl, ha, k⟩ := h
    exact ⟨_, pss_one (ps_ost (pv 0) (pv 1)), _, rfl, _, rfl, a, C, rfl, B.ex, B.noI, .inl ⟨ha, fun d nd ne => k d nd ne⟩⟩
abbrev towN : List Str := ["self", "cells", "at", "cell", "face"]
theorem scTowI : FnScope towN ["self", "cells"] (defScope sTowI) := ⟨rfl, rfl, rfl, by decide +kernel, rfl, by decide +kernel, by decide +kernel⟩
theorem ok_tow {f fB CT CB : Addr} {fd fdB : FuncData} (F : L2.Fun K "__init__" "Tower.__init__" sTowI f fd) (T : Gb mg) (M : TowC mg) (W : TowK K mg CT) (B : BadC K mg CB fB) (FB : FnOk P w K mg base CX0 1 fB fdB ["self", "index"] (spBad CB)) (bB : Binds K fdB ["self", "index"] [])
    (cC : Cal P w K mg base 4 "is_cell" (spCell K) []) (cF : Cal P w K mg base 1 "faces" spFaces []) : FnOk P w K mg base (L2.CX P w) 5 f fd ["self", "cells"] (spTow K CT CB) := by
  obtain ⟨t40, h40⟩ := M.mc
  refine F.okX scTowI (fun vs H Q E h => ?_) (fun cdv A outer s H vs Q E hr h => ?_)
  · obtain ⟨p, dx, y, rfl, _⟩ := h
    rfl
  · obtain ⟨p, dx, y, rfl, hp, th, kQ, kE⟩ := h
    have hr2 : Room 2 _ := hr.mono (by decide)
    refine ⟨_, C8.pss_cut (ps_if (PW.pt (pw_or (pt_not (pt_val (pe_callB call_isi (by rfl) T.isi (by decide +kernel) (pa_cons (pv 1) (pa_cons (pe_bltn (v := .ty "tuple") (by rfl) T.tup (by decide +kernel) rfl) pa_nil)))))
          (pw_or1 (pt_cmpR op_gt (pe_callB call_len_seq (by rfl) T.len PySem.boot_len (pa_cons (pv 1) pa_nil)) (pe_glob (v := .int 40) rfl h40 ⟨_, rfl⟩) (nomark _)))))
        (pss_one (ps_raise rfl (takes_of rfl rfl rfl rfl) (pmk_oex B.ex B.iC B.tI FB hr2 bB .nil pass0 (by rfl) B.gC (pa_cons (pe_un un_neg pe_int) pa_nil)))) pss_nil)
      (pss_cons (ps_for (passes_of rfl) rfl (pi_en (by rfl) T.enum (pa_cons (pv 1) pa_nil)) (pg_tup rfl (pgs_cons (pg_name (i := 2) scTowI.nd rfl (Or.inr rfl)) (pgs_cons (pg_name (i := 3) scTowI.nd rfl (Or.inl rfl)) pgs_nil)))
        (C8.pss_cut (ps_if (PW.pt (pw_or (pt_not (pt_val (C8.pe_c cC hr (by decide) (by rfl) (pa_cons (pv 3) pa_nil)))) (pw_or1 (pt_cmpR (op_inT (u65 hr)) (pv 3) (pe_slice sl_tupA (pv 1) po_none (po_some (pv 2))) (by rfl)))))
            (pss_one (ps_raise rfl (takes_of rfl rfl rfl rfl) (pmk_oex B.ex B.iC B.tI FB hr2 bB .nil pass0 (by rfl) B.gC (pa_cons (pv 2) pa_nil)))) pss_nil)
        (pss_one (ps_if (pt_not (pt_val (pe_callB (cr_all rfl) (by rfl) T.all (by decide +kernel) (pa_cons (pe_lc (own := [("face", 4)]) (g := gName 4) (tt := tYes) (te := tOp (rInT K) (tVar 4) (tSl (rSlA K) (tVar 1) tNoPart (tPart (tVar 2)))) rfl scTowI.nd (pi_list (C8.pe_c cF hr (by decide) (by rfl) (pa_cons (pv 3) pa_nil))) (blkOk_by (N := towN) (sc := defScope sTowI) (by decide +kernel))
              (fun _ _ _ _ _ => pg_name (i := 4) scTowI.nd rfl (Or.inl rfl)) (fun _ _ _ _ _ => pts_nil) (fun _ _ _ _ _ => pe_cmpR (op_inT (u65 hr)) (pv 4) (pe_slice sl_tupA (pv 1) po_none (po_some (pv 2))) (by rfl))) pa_nil))))
            (pss_one (ps_raise rfl (takes_of rfl rfl rfl rfl) (pmk_oex B.ex B.iC B.tI FB hr2 bB .nil pass0 (by rfl) B.gC (pa_cons (pv 2) pa_nil)))) pss_nil))))
      (pss_one (ps_fld (pv 0) (pv 1) rfl))), ?_⟩
    -- the raise, told once
    have out : ∀ (H1 : Hp) (v : V), Ext H H1 → DueV H y v → ∀ a, H1 a = Option.none → spBad CB (.ref a :: ([v] ++ [])) (upd H1 a (exo a CB Option.none))
        (fun u H2 => u = .non ∧ ∃ (d : Addr) (fs : List (Str × V)), H2 a = some (exo a CB (some d)) ∧ H2 d = some (exd d fs) ∧ H1 d = Option.none ∧ E (.ref CB) (some d) (upd (del H2 a) d (.xd fs))) (fun _ _ _ => False) := by
      intro H1 v e bp a na
      refine ⟨a, v, rfl, upd_same, fun d nd ne => ⟨rfl, d, [(("index" : Str), v)], ?_⟩⟩
      obtain ⟨h1, h2, h3, h4⟩ := bad_end (v := v) na nd ne
      exact ⟨h1, h2, h3, kE v d _ bp (none_back e h3) upd_same (e.trans h4)⟩
    have th0 := th.1
    unfold Th at th0
    obtain ⟨t, ty, _, _, kt⟩ := th0
    refine ⟨fun σ' H1 => σ' = [some (.ref p), some y, Option.none, Option.none, Option.none] ∧ H1 = H ∧ ∃ b xs, y = .ref b ∧ H b = some (.tup xs) ∧ xs.length ≤ 40, ?_, ?_⟩
    · rcases kt with ⟨kt, nt⟩ | ⟨kt, b, xs, rfl, hb, it⟩
      · refine ⟨_, rfl, y, .ty "tuple", t, .type "tuple", _, rfl, .ty _, ty, kt, _, rfl, ?_⟩
        refine iteT (iteT ⟨1, rfl, by decide, out H _ Ext.rfl' (.inl ⟨rfl, ?_⟩)⟩)
        rintro ⟨b, xs, e, hb, _⟩
        obtain ⟨o, h1, h2⟩ := nt b e
        rw [hb] at h1
        cases h1
        exact absurd rfl (h2 xs)
      · refine ⟨_, rfl, _, .ty "tuple", t, .type "tuple", _, rfl, .ty _, ty, kt, _, rfl, ?_⟩
        refine iteF ⟨_, rfl, b, xs, rfl, .inr (SqT.of hb), _, _, rfl, rfl, _, rfl, ?_⟩
        refine ite2 (fun z => ?_) (fun z => ?_)
        · have hl := of_decide_eq_true z
          refine ⟨1, rfl, by decide, out H _ Ext.rfl' (.inl ⟨rfl, ?_⟩)⟩
          rintro ⟨b', xs', e, hb', hl'⟩
          cases e
          rw [hb] at hb'
          cases hb'
          omega
        · have hl : ¬ (40 : Int) < (xs.length : Int) := fun q => z (decide_eq_true q)
          exact ⟨rfl, rfl, b, xs, rfl, hb, by omega⟩
    · rintro σ' H0 ⟨rfl, rfl, b, xs, rfl, hb, hl⟩
      have it := th.1.items hb
      have sm := (th.2 b xs rfl hb).2
      refine ⟨_, rfl, b, xs, rfl, hb, for_en (a := b) (xs := xs) (fun i σ' H2 => (∃ u v, σ' = [some (.ref p), some (.ref b), u, v, Option.none]) ∧ Ext H0 H2 ∧ ∃ as ll, xs.take i = as.map V.ref ∧ PT2 H0 as ll ∧ GoodT ll)
        ⟨⟨_, _, rfl⟩, Ext.rfl', [], [], rfl, .nil, True.intro⟩ (fun i σ' H2 h => h.2.1 _ _ hb) ?_ ?_⟩
      · rintro i z σ' H2 q hz ⟨⟨u, v, rfl⟩, e2, as, ll, tk, pt, gd⟩ nq
        have e3 : Ext H0 (upd H2 q (.tup [.int (i : Nat), z])) := e2.trans (Ext.upd nq)
        have hi := (List.getElem?_eq_some_iff.mp hz).1
        have tz := it z (List.mem_of_getElem? hz)
        have bad : ¬ OkV H0 ll z → DueV H0 (.ref b) (.int (i : Int)) := fun no => .inr ⟨b, xs, i, z, as, ll, rfl, hb, hl, rfl, hz, tk, pt, gd, no⟩
        refine ⟨q, _, rfl, SqT.of upd_same, rfl, _, _, rfl, _, _, rfl, rfl, ?_⟩
        have ct : cutV xs none (some (i : Int)) = as.map V.ref := by
          unfold cutV
          rw [HT.sIx_none, HT.sIx_nat, List.drop_zero, Nat.sub_zero, Nat.min_eq_left (Nat.le_of_lt hi), tk]
        refine ⟨fun σ' H' => σ' = [some (.ref p), some (.ref b), some (.int (i : Int)), some z, Option.none] ∧ Ext H0 H' ∧ ∃ c ns, z = .ref c ∧ H0 c = some (.tup (ns.map V.int)) ∧ CellL ns ∧ ns ∉ ll, ?_, ?_⟩
        · refine ⟨_, rfl, z, rfl, tz.ext e3, (sm z (List.mem_of_getElem? hz)).ext e3 tz, fun bb H3 hbb e4 => ⟨_, rfl, ?_⟩⟩
          have e34 := e3.trans e4
          cases bb with
          | false =>
            refine iteT (iteT ⟨_, rfl, (by show 1 ≤ 1000; decide), out H3 _ e34 (bad fun ⟨c, ns, ez, hc, o⟩ => ?_)⟩)
            have := hbb.mpr ⟨c, ns, ez, e3 _ _ hc, o.1⟩
            cases this
          | true =>
            obtain ⟨c, ns, rfl, hc3, cl⟩ := hbb.mp rfl
            have hc := tz.tup_back e3 hc3
            refine iteF ⟨_, rfl, _, rfl, _, rfl, (i : Int), rfl, ?_⟩
            refine sl_any (K := K) (lo := none) (hi := some (i : Int)) (e34 _ _ hb) fun q1 H4 e5 hq1 => ?_
            rw [ct] at hq1
            have e35 := e34.trans e5
            refine in_T (e35 _ _ hc) ⟨as, hq1, PT2.mono (fun _ _ z => e35 _ _ z) pt⟩ ⟨_, rfl, ?_⟩
            refine ite2 (fun y => ?_) (fun y => ?_)
            · refine ⟨_, rfl, (by show 1 ≤ 1000; decide), out H4 _ e35 (bad fun ⟨c', ns', ez, hc', o⟩ => ?_)⟩
              cases ez
              rw [hc] at hc'
              injection hc' with hc'
              injection hc' with hc'
              rw [← int_inj hc'] at o
              exact o.2.1 (of_decide_eq_true y)
            · exact ⟨rfl, e35, c, ns, rfl, hc, cl, fun q => y (decide_eq_true q)⟩
        · rintro σ' H3 ⟨rfl, e4, c, ns, rfl, hc, cl, nin⟩
          refine ⟨_, rfl, c, ns, rfl, e4 _ _ hc, cl.1, cl.2.1, fun fl fs H4 e5 hf pf => ⟨fl, rfl, ⟨_, SqL.of hf⟩, fun D nD => ?_⟩⟩
          have e45 := e4.trans e5
          refine lc_list (K := K) (a := fl) (xs := fs.map V.ref) (fun j H' => Ext H4 H' ∧ H' D = some (.lst ((((facesL ns).take j).map fun f => decide (f ∈ ll)).map V.bl))) ⟨Ext.upd nD, upd_same⟩ (fun j H' _ z => SqL.of (z.1 _ _ hf)) ?_ ?_
          · rintro j u H' hu ⟨ex, hD⟩
            rw [List.getElem?_map] at hu
            cases hj : fs[j]? with
            | none => rw [hj] at hu; cases hu
            | some g =>
              rw [hj] at hu
              cases hu
              obtain ⟨fl', hfl, hg⟩ := pf.get hj
              have ex0 := e45.trans ex
              refine ⟨rfl, tyes_in ⟨_, rfl, _, rfl, _, rfl, (i : Int), rfl, ?_⟩⟩
              refine sl_any (K := K) (lo := none) (hi := some (i : Int)) (ex0 _ _ hb) fun q1 H5 e6 hq1 => ?_
              rw [ct] at hq1
              refine in_T (e6 _ _ (ex _ _ hg)) ⟨as, hq1, PT2.mono (fun _ _ z => e6 _ _ (ex0 _ _ z)) pt⟩ ?_
              have lf : (facesL ns).length ≤ 4 := by
                unfold facesL
                split
                · decide
                · rw [List.length_map, List.length_range]; exact cl.2.1
              refine ⟨_, e6 _ _ hD, small1000 (by rw [List.length_map, List.length_map, List.length_take]; omega), fun b' o eo => ?_, ?_⟩
              · rw [upd_ne (ne_of_none eo nD)]
                exact e6 _ _ (ex _ _ eo)
              · rw [upd_same, List.take_succ, hfl, List.map_append, List.map_append]
                rfl
          · rintro H' ⟨ex, hD⟩
            have lf : (fs.map V.ref).length = (facesL ns).length := by rw [List.length_map, PT2.len pf]
            rw [lf, List.take_of_length_le (Nat.le_refl _)] at hD
            have e46 := e45.trans ex
            cases ball : ((facesL ns).map fun f => decide (f ∈ ll)).all id with
            | false =>
              refine ⟨D, _, rfl, SqL.of hD, false, congrArg V.bl ball, ?_⟩
              refine iteT ⟨_, rfl, (by show 1 ≤ 1000; decide), out H' _ e46 (bad fun ⟨c', ns', ez, hc', o⟩ => ?_)⟩
              cases ez
              rw [hc] at hc'
              injection hc' with hc'
              injection hc' with hc'
              rw [← int_inj hc'] at o
              have : ((facesL ns).map fun f => decide (f ∈ ll)).all id = true := List.all_eq_true.mpr fun bb hbb => by
                obtain ⟨g, hg, rfl⟩ := List.mem_map.mp hbb
                exact decide_eq_true (o.2.2 g hg)
              rw [this] at ball
              cases ball
            | true =>
              refine ⟨D, _, rfl, SqL.of hD, true, congrArg V.bl ball, ?_⟩
              refine iteF ⟨⟨_, _, rfl⟩, e46, as ++ [c], ll ++ [ns], ?_, PT2.snoc pt hc, good_snoc.mpr ⟨gd, cl, nin, fun g hg => ?_⟩⟩
              · rw [List.take_succ, hz, tk, List.map_append]
                rfl
              · exact of_decide_eq_true (List.all_eq_true.mp ball _ (List.mem_map_of_mem hg))
      · rintro σ' H2 ⟨⟨u, v, rfl⟩, e2, as, ll, tk, pt, gd⟩
        rw [List.take_of_length_le (Nat.le_refl _)] at tk
        subst tk
        refine ⟨_, rfl, _, rfl, p, CT, dx, [], rfl, e2 _ _ hp, W.cl, W.nC, (by show 0 < 1000; decide), ?_⟩
        refine kQ b _ rfl ⟨b, as, ll, rfl, hb, by rw [List.length_map] at hl; exact hl, pt, gd⟩ ?_ (fun c o nc eo => ?_)
        · rw [upd_same]
          rfl
        · rw [upd_ne nc]
          exact e2 _ _ eo
end
end T39

set_option Elab.async false
set_option linter.all false
set_option maxRecDepth 100000
set_option maxHeartbeats 4000000
set_option pp.maxSteps 60
/-! Towers compared, exchanged, and the law's own judge. -/
namespace T39
open PySem L2
abbrev sExch : Stmt := top 16
abbrev sDue : Stmt := top 24
abbrev sWord : Stmt := top 26
abbrev sSame : Stmt := top 27
def spEqT (K : PySem.W.Frag) (C : Addr) : Sp := fun vs H Q _ => ∃ (p : Addr) (z : V) (b : Addr) (ll : List (List Int)), vs = [.ref p, z] ∧ TowAt C H p b ∧ TT H b ll ∧
  ((∃ (p' b' : Addr) (kk : List (List Int)), z = .ref p' ∧ TowAt C H p' b' ∧ TT H b' kk ∧ Q (.bl (decide (ll = kk))) H) ∨ ∃ t, TyX K H z t ∧ PySem.W.kitOne K t (.ref C) = some false ∧ Q (.bl false) H)
/-! ### two cells exchanged -/
def swapAt (ll : List (List Int)) (k : Nat) (l1 l2 : List Int) : List (List Int) := ll.take k ++ ([l2, l1] ++ ll.drop (k + 2))
theorem gd_mem : ∀ {r p q : List (List Int)}, (∀ x, x ∈ p ↔ x ∈ q) → Gd p r → Gd q r
  | [], _, _, _, _ => True.intro
  | l :: r, p, q, h, ⟨⟨c, n, f⟩, g⟩ => ⟨⟨c, fun z => n ((h l).mpr z), fun x hx => (h x).mp (f x hx)⟩, gd_mem (fun x => by simp only [List.mem_append, h x]) g⟩
theorem gd_app : ∀ {p r s : List (List Int)}, Gd p (r ++ s) ↔ Gd p r ∧ Gd (p ++ r) s
  | p, [], s => by simp [Gd]
  | p, a :: r, s => by
    have ih := gd_app (p := p ++ [a]) (r := r) (s := s)
    show Ok p a ∧ Gd (p ++ [a]) (r ++ s) ↔ (Ok p a ∧ Gd (p ++ [a]) r) ∧ Gd (p ++ a :: r) s
    rw [ih, List.append_assoc]
    exact ⟨fun ⟨x, y, z⟩ => ⟨⟨x, y⟩, z⟩, fun ⟨⟨x, y⟩, z⟩ => ⟨x, y, z⟩⟩
theorem gd_swap {p r : List (List Int)} {l1 l2 : List Int} (h : Gd p (l1 :: l2 :: r)) (no : l1 ∉ facesL l2) : Gd p (l2 :: l1 :: r) ∧ l2 ∉ facesL l1 := by
  obtain ⟨⟨c1, n1, f1⟩, ⟨c2, n2, f2⟩, g⟩ := h
  have n12 : l2 ≠ l1 := fun e => n2 (by rw [e]; simp)
  refine ⟨⟨⟨c2, fun z => n2 (List.mem_append_left _ z), fun x hx => ?_⟩, ⟨c1, fun z => ?_, fun x hx => List.mem_append_left _ (f1 x hx)⟩, gd_mem (fun x => ?_) g⟩, fun z => n2 (List.mem_append_left _ (f1 _ z))⟩
  · rcases List.mem_append.mp (f2 x hx) with z | z
    · exact z
    · rw [List.mem_singleton.mp z] at hx
      exact (no hx).elim
  · rcases List.mem_append.mp z with z | z
    · exact n1 z
    · exact n12 (List.mem_singleton.mp z).symm
  · simp only [List.mem_append, List.mem_singleton]
    constructor
    · rintro ((x | x) | x)
      · exact .inl (.inl x)
      · exact .inr x
      · exact .inl (.inr x)
    · rintro ((x | x) | x)
      · exact .inl (.inl x)
      · exact .inr x
      · exact .inl (.inr x)
theorem split_at {ll : List (List Int)} {k : Nat} {l1 l2 : List Int} (h1 : ll[k]? = some l1) (h2 : ll[k + 1]? = some l2) : ll = ll.take k ++ (l1 :: l2 :: ll.drop (k + 2)) := by
  obtain ⟨a1, b1⟩ := List.getElem?_eq_some_iff.mp h1
  obtain ⟨a2, b2⟩ := List.getElem?_eq_some_iff.mp h2
  have e : ll.drop k = l1 :: l2 :: ll.drop (k + 2) := by
    rw [List.drop_eq_getElem_cons a1, List.drop_eq_getElem_cons a2, b1, b2]
  rw [← e, List.take_append_drop]
theorem good_swap {ll : List (List Int)} {k : Nat} {l1 l2 : List Int} (g : GoodT ll) (h1 : ll[k]? = some l1) (h2 : ll[k + 1]? = some l2) (no : l1 ∉ facesL l2) : GoodT (swapAt ll k l1 l2) ∧ l2 ∉ facesL l1 := by
  have e := split_at h1 h2
  unfold GoodT at g ⊢
  rw [e] at g
  obtain ⟨g1, g2⟩ := gd_app.mp g
  obtain ⟨g3, n⟩ := gd_swap g2 no
  exact ⟨gd_app.mpr ⟨g1, g3⟩, n⟩
theorem swap_get {ll : List (List Int)} {k : Nat} {l1 l2 : List Int} (h1 : ll[k]? = some l1) (h2 : ll[k + 1]? = some l2) : (swapAt ll k l1 l2)[k]? = some l2 ∧ (swapAt ll k l1 l2)[k + 1]? = some l1 ∧ swapAt (swapAt ll k l1 l2) k l2 l1 = ll := by
  have a1 := (List.getElem?_eq_some_iff.mp h1).1
  have lt : (ll.take k).length = k := by rw [List.length_take]; omega
  have e := split_at h1 h2
  refine ⟨?_, ?_, ?_⟩
  · unfold swapAt
    rw [List.getElem?_append_right (by omega), lt]
    simp
  · unfold swapAt
    rw [List.getElem?_append_right (by omega), lt]
    simp
  · unfold swapAt
    rw [List.take_append_of_le_length (by omega), List.take_of_length_le (by omega), List.drop_append, lt, List.drop_of_length_le (by omega)]
    have e2 : k + 2 - k = 2 := by omega
    rw [e2]
    show ll.take k ++ ([l1, l2] ++ ll.drop (k + 2)) = ll
    exact e.symm
theorem thing_of {K : PySem.W.Frag} {H : Hp} {b : Addr} {as : List Addr} {ll : List (List Int)} (hb : H b = some (.tup (as.map V.ref))) (pt : PT2 H as ll) (la : as.length ≤ 1000) (hl : ∀ l ∈ ll, l.length ≤ 1000) : Thing K H (.ref b) := by
  refine ⟨Th.tup hb (PT2.th (n := 0) pt), fun b' xs e hb' => ?_⟩
  cases e
  rw [hb] at hb'
  cases hb'
  refine ⟨by rw [List.length_map]; exact la, fun z hz c ys e hc => ?_⟩
  subst e
  obtain ⟨a, ha, e⟩ := List.mem_map.mp hz
  cases e
  obtain ⟨i, hi⟩ := List.mem_iff_getElem?.mp ha
  obtain ⟨l, hl', h⟩ := pt.get hi
  rw [h] at hc
  cases hc
  rw [List.length_map]
  exact hl l (List.mem_of_getElem? hl')
theorem good_cells {ll : List (List Int)} (g : GoodT ll) : ∀ l ∈ ll, CellL l := fun l hl => by
  obtain ⟨i, hi⟩ := List.mem_iff_getElem?.mp hl
  have := gd_at [] ll i l g hi
  exact this.1
theorem good_short {ll : List (List Int)} (g : GoodT ll) : ∀ l ∈ ll, l.length ≤ 1000 := fun l hl => Nat.le_trans (good_cells g l hl).2.1 (by decide)
theorem p_drop {α β : Type} {F : α → β → Prop} : ∀ {l : List α} {k : List β} (n : Nat), Paired F l k → Paired F (l.drop n) (k.drop n)
  | _, _, 0, r => r
  | _, _, n + 1, .nil => .nil
  | _, _, n + 1, .cons _ r => p_drop n r
theorem p_app {α β : Type} {F : α → β → Prop} : ∀ {l l' : List α} {k k' : List β}, Paired F l k → Paired F l' k' → Paired F (l ++ l') (k ++ k')
  | _, _, _, _, .nil, r' => r'
  | _, _, _, _, .cons a r, r' => .cons a (p_app r r')
def spExch (K : PySem.W.Frag) (CT NX : Addr) : Sp := fun vs H Q E => ∃ (p b : Addr) (as : List Addr) (ll : List (List Int)) (k : Nat) (l1 l2 : List Int), vs = [.ref p, .int (k : Int)] ∧ TowAt CT H p b ∧ H b = some (.tup (as.map V.ref)) ∧ PT2 H as ll ∧ GoodT ll ∧ as.length ≤ 40 ∧ ll[k]? = some l1 ∧ ll[k + 1]? = some l2 ∧
  (∀ (p' b' : Addr) (as' : List Addr) (H' : Hp), l1 ∉ facesL l2 → Ext H H' → TowAt CT H' p' b' → H' b' = some (.tup (as'.map V.ref)) → PT2 H' as' (swapAt ll k l1 l2) → Q (.ref p') H') ∧ (∀ H' : Hp, l1 ∈ facesL l2 → Ext H H' → E (.ref NX) none H')
def spDue (K : PySem.W.Frag) : Sp := fun vs H Q _ => ∃ y : V, vs = [y] ∧ Thing K H y ∧ (∀ H' : Hp, GoodV H y → Ext H H' → Q .non H') ∧ ∀ (v : V) (H' : Hp), DueV H y v → Ext H H' → Q v H'
def spSame : Sp := fun vs H Q _ => ∃ v : V, vs = [v, v] ∧ (v = .non ∨ ∃ i, v = .int i) ∧ Q (.bl true) H
theorem due_int {H : Hp} {y v : V} (d : DueV H y v) : ∃ i, v = .int i := by
  rcases d with ⟨rfl, _⟩ | ⟨_, _, k, _, _, _, _, _, _, rfl, _⟩
  · exact ⟨_, rfl⟩
  · exact ⟨_, rfl⟩
section
variable {P : Program} {w : World} {K : PySem.W.Frag} {mg : Str → Option Value} {base : Heap}
theorem scTowE : FnScope ["self", "other"] ["self", "other"] (defScope sTowE) := ⟨rfl, rfl, rfl, by decide +kernel, rfl, by decide +kernel, by decide +kernel⟩
theorem ok_towE {f CT : Addr} {fd : FuncData} (F : L2.Fun K "__eq__" "Tower.__eq__" sTowE f fd) (T : Gb mg) (W : TowK K mg CT) (IW : IsC K CT) : FnOk P w K mg base CX0 1 f fd ["self", "other"] (spEqT K CT) := by
  refine F.ok scTowE (fun vs H Q E h => ?_) (fun cdv A outer s H vs Q E hr h => ?_)
  · obtain ⟨p, z, b, ll, rfl, _⟩ := h
    rfl
  · obtain ⟨p, z, b, ll, rfl, ⟨dx, hp⟩, tt, k⟩ := h
    refine ⟨_, pss_one (ps_ret (pe_and (pe_callB call_isi (by rfl) T.isi (by decide +kernel) (pa_cons (pv 1) (pa_cons (pe_glob (v := .ref CT) rfl W.mgC rfl) pa_nil)))
      (pe_one (pe_cmpR (op_eqD hr.units) (pe_fld (pv 0) rfl) (pe_fld (pv 1) rfl) (nomark _))))), ?_⟩
    rcases k with ⟨p', b', kk, rfl, ⟨dx', hp'⟩, tt', q⟩ | ⟨t, ty, kt, q⟩
    · refine ⟨_, rfl, _, .ref CT, .ref CT, .ref CT, _, rfl, .own CT, IW.ty hp', kit_same, _, rfl, ?_⟩
      refine iteT ⟨_, rfl, p, CT, dx, _, _, rfl, hp, W.cl, W.nC, cf_cells _, _, rfl, p', CT, dx', _, _, rfl, hp', W.cl, W.nC, cf_cells _, _, _, tt.dp, tt'.dp, shaped_dT _, shaped_dT _, ?_⟩
      rw [eqv_dT]
      exact q
    · refine ⟨_, rfl, z, .ref CT, t, .ref CT, _, rfl, .own CT, ty, kt, _, rfl, ?_⟩
      exact iteF q
theorem scExch : FnScope ["tower", "at", "first", "second"] ["tower", "at"] (defScope sExch) := ⟨rfl, rfl, rfl, by decide +kernel, rfl, by decide +kernel, by decide +kernel⟩
theorem ok_exch {f fT fI CT CB NX : Addr} {fd fdT fdI : FuncData} (F : L2.Fun K "exchanged" "exchanged" sExch f fd) (T : Gb mg) (W : TowK K mg CT) (N : ErrC K mg "NoExchange" NX fI) (FI : FnOk P w K mg base CX0 1 fI fdI ["self"] spF0) (bI : Binds K fdI ["self"] [])
    (cN : Cal P w K mg base 2 "is_number" (spNumber K) []) (cF : Cal P w K mg base 1 "faces" spFaces []) (MT : Mk K CT fT) (FT : FnOk P w K mg base (L2.CX P w) 5 fT fdT ["self", "cells"] (spTow K CT CB)) (bT : Binds K fdT ["self", "cells"] []) :
    FnOk P w K mg base (L2.CX P w) 7 f fd ["tower", "at"] (spExch K CT NX) := by
  refine F.okX scExch (fun vs H Q E h => ?_) (fun cdv A outer s H vs Q E hr h => ?_)
  · obtain ⟨p, b, as, ll, k, l1, l2, rfl, _⟩ := h
    rfl
  · obtain ⟨p, b, as, ll, k, l1, l2, rfl, ⟨dx, hp⟩, hb, pt, gd, la, h1, h2, kQ, kE⟩ := h
    have hr2 : Room 2 _ := hr.mono (by decide)
    refine ⟨_, pss_cons (ps_if (pt_not (pt_val (C8.pe_c cN hr (by decide) (by rfl) (pa_cons (pe_op op_sub (pe_callB call_len_seq (by rfl) T.len PySem.boot_len (pa_cons (pe_fld (pv 0) rfl) pa_nil)) pe_int) (pa_cons (pv 1) pa_nil))))) (pss_one ps_never) pss_nil)
      (pss_cons (ps_par (i := 2) (j := 3) rfl scExch.nd rfl rfl (by decide) rfl rfl (pa_cons (pe_ix ix_tup (pe_fld (pv 0) rfl) (pv 1) (fun _ _ => rfl)) (pa_cons (pe_ix ix_tup (pe_fld (pv 0) rfl) (pe_op op_add (pv 1) pe_int) (fun _ _ => rfl)) pa_nil)) (by rfl))
      (pss_cons (ps_if (pt_cmpR (op_inD (u65 hr)) (pv 2) (C8.pe_c cF hr (by decide) (by rfl) (pa_cons (pv 3) pa_nil)) (by rfl)) (pss_one (ps_raise_v H K (takes_of rfl rfl rfl rfl) rfl rfl (pe_exv0 N.ex N.iC N.tI FI hr2 bI pass0 (by rfl) N.gC))) pss_nil)
      (pss_one (ps_ret (pe_make MT FT hr (by rfl) W.mgC bT .nil passL (pa_cons (pe_op op_catA (pe_op op_catA (pe_slice sl_tupA (pe_fld (pv 0) rfl) po_none (po_some (pv 1))) (pe_tup (pa_cons (pv 3) (pa_cons (pv 2) pa_nil)))) (pe_slice sl_tupA (pe_fld (pv 0) rfl) (po_some (pe_op op_add (pv 1) pe_int)) po_none)) pa_nil)))))), ?_⟩
    have ln := PT2.len pt
    have k1 := (List.getElem?_eq_some_iff.mp h1).1
    have k2 := (List.getElem?_eq_some_iff.mp h2).1
    refine ⟨_, rfl, p, CT, dx, _, _, rfl, hp, W.cl, W.nC, cf_cells _, b, _, rfl, .inr (SqT.of hb), _, _, rfl, rfl, _, rfl, _, .int (k : Int), rfl, Th.int _, _, rfl, ?_⟩
    rw [numV_true.mpr ⟨_, rfl, by omega, by rw [List.length_map]; omega⟩]
    refine iteF ?_
    have a1 : as[k]? = some as[k] := List.getElem?_eq_getElem (by omega)
    have a2 : as[k + 1]? = some as[k + 1] := List.getElem?_eq_getElem (by omega)
    generalize as[k] = c1 at *
    generalize as[k + 1] = c2 at *
    obtain ⟨l1', e1, hc1⟩ := pt.get a1
    obtain ⟨l2', e2, hc2⟩ := pt.get a2
    rw [h1] at e1
    rw [h2] at e2
    cases e1
    cases e2
    have v1 : (as.map V.ref)[k]? = some (.ref c1) := by rw [List.getElem?_map, a1]; rfl
    have v2 : (as.map V.ref)[k + 1]? = some (.ref c2) := by rw [List.getElem?_map, a2]; rfl
    refine ⟨_, rfl, p, CT, dx, _, _, rfl, hp, W.cl, W.nC, cf_cells _, _, rfl, b, _, _, _, rfl, rfl, SqT.of hb, atI_nat v1, ?_⟩
    refine ⟨_, rfl, p, CT, dx, _, _, rfl, hp, W.cl, W.nC, cf_cells _, _, rfl, _, _, rfl, rfl, b, _, _, _, rfl, rfl, SqT.of hb, at_of (j := k + 1) (by omega) v2, ?_⟩
    refine ⟨_, _, rfl, ?_⟩
    have cl2 := good_cells gd l2 (List.mem_of_getElem? h2)
    refine ⟨_, rfl, _, rfl, c2, l2, rfl, hc2, cl2.1, cl2.2.1, fun fl fs H1 e1 hf pf => ?_⟩
    refine in_L (e1 _ _ hc1) hf pf ⟨_, rfl, ?_⟩
    refine ite2 (fun z => ?_) (fun z => ?_)
    · exact raise0 N e1 fun H' e => kE H' (of_decide_eq_true z) e
    · have no : l1 ∉ facesL l2 := fun q => z (decide_eq_true q)
      obtain ⟨gs, _⟩ := good_swap gd h1 h2 no
      refine ⟨_, rfl, p, CT, dx, _, _, rfl, e1 _ _ hp, W.cl, W.nC, cf_cells _, _, rfl, (k : Int), rfl, ?_⟩
      refine sl_any (K := K) (lo := none) (hi := some (k : Int)) (e1 _ _ hb) fun q1 H2 x2 y2 => ?_
      refine ⟨_, rfl, _, rfl, by show 2 ≤ sizeLine; decide, fun t nt => ?_⟩
      have lc := cutV_length (as.map V.ref) none (some (k : Int))
      have ld := cutV_length (as.map V.ref) (some ((k : Int) + 2)) none
      rw [List.length_map] at lc ld
      refine cat_any (Ext.upd nt _ _ y2) upd_same (by simp; omega) fun q2 H3 x3 y3 => ?_
      have e3 := e1.trans (x2.trans ((Ext.upd nt).trans x3))
      refine ⟨_, rfl, p, CT, dx, _, _, rfl, e3 _ _ hp, W.cl, W.nC, cf_cells _, _, rfl, _, _, rfl, rfl, (k : Int) + 2, rfl, ?_⟩
      dsimp only [tNoPart]
      refine sl_any (K := K) (lo := some ((k : Int) + 2)) (hi := none) (e3 _ _ hb) fun q3 H4 x4 y4 => ?_
      refine cat_any (x4 _ _ y3) y4 (by simp; omega) fun q4 H5 x5 y5 => ?_
      have e5 := e3.trans (x4.trans x5)
      have ecut : (cutV (as.map V.ref) none (some (k : Int)) ++ [V.ref c2, V.ref c1]) ++ cutV (as.map V.ref) (some ((k : Int) + 2)) none = (as.take k ++ ([c2, c1] ++ as.drop (k + 2))).map V.ref := by
        have s1 : HT.sIx (as.map V.ref).length (as.map V.ref).length (some (k : Int)) = k := by rw [HT.sIx_nat, List.length_map]; omega
        have s2 : HT.sIx (as.map V.ref).length 0 (some ((k : Int) + 2)) = k + 2 := by rw [show ((k : Int) + 2) = ((k + 2 : Nat) : Int) by omega, HT.sIx_nat, List.length_map]; omega
        unfold cutV
        rw [s1, s2, HT.sIx_none, HT.sIx_none, List.drop_zero, Nat.sub_zero, List.take_of_length_le (l := (as.map V.ref).drop (k + 2)) (by rw [List.length_drop]; exact Nat.le_refl _), List.append_assoc]
        simp [List.map_take, List.map_drop]
      rw [ecut] at y5
      have ptS : PT2 H5 (as.take k ++ ([c2, c1] ++ as.drop (k + 2))) (swapAt ll k l1 l2) := by
        have pm := PT2.mono (fun _ _ z => e5 _ _ z) pt
        exact p_app (p_take k pm) (p_app (.cons (e5 _ _ hc2) (.cons (e5 _ _ hc1) .nil)) (p_drop (k + 2) pm))
      have lS : (as.take k ++ ([c2, c1] ++ as.drop (k + 2))).length ≤ 40 := by
        simp only [List.length_append, List.length_take, List.length_drop, List.length_cons, List.length_nil]
        omega
      intro x dx' nx ndx nex
      have eM : Ext H5 (upd (upd H5 dx' (.own x)) x (.ins CT dx' [])) := (Ext.upd ndx).trans (Ext.upd (by rw [upd_ne nex.symm]; exact nx))
      have th := (thing_of (K := K) y5 ptS (Nat.le_trans lS (by decide)) (good_short gs)).ext eM
      refine ⟨x, dx', _, rfl, upd_same, th, fun b' H6 eb _ hw kp => ⟨rfl, ?_⟩, fun v d H6 dv _ _ _ => ?_⟩
      · cases eb
        have e6 : Ext H5 H6 := fun c u hc => kp c u (ne_of_none hc nx) (eM _ _ hc)
        exact kQ x _ _ H6 no (e5.trans e6) ⟨dx', hw⟩ (e6 _ _ y5) (PT2.mono (fun _ _ z => e6 _ _ z) ptS)
      · exact dv.not_good ⟨_, _, _, rfl, eM _ _ y5, lS, PT2.mono (fun _ _ z => eM _ _ z) ptS, gs⟩
abbrev dueN : List Str := ["_law_thing", "_law_ahead", "_law_index", "_law_cell", "_law_face"]
theorem scDue : FnScope dueN ["_law_thing"] (defScope sDue) := ⟨rfl, rfl, rfl, by decide +kernel, rfl, by decide +kernel, by decide +kernel⟩
theorem ok_due {f : Addr} {fd : FuncData} (F : L2.Fun K "_law_due" "_law_due" sDue f fd) (T : Gb mg) (cC : Cal P w K mg base 1 "_law_is_cell" (spCell K) []) (cF : Cal P w K mg base 1 "_law_faces" spFaces []) : FnOk P w K mg base CX0 2 f fd ["_law_thing"] (spDue K) := by
  refine F.ok scDue (fun vs H Q E h => ?_) (fun cdv A outer s H vs Q E hr h => ?_)
  · obtain ⟨y, rfl, _⟩ := h
    rfl
  · obtain ⟨y, rfl, th, kN, kV⟩ := h
    refine ⟨_, C8.pss_cut (ps_if (PW.pt (pw_or (pt_not (pt_val (pe_callB call_isi (by rfl) T.isi (by decide +kernel) (pa_cons (pv 0) (pa_cons (pe_bltn (v := .ty "tuple") (by rfl) T.tup (by decide +kernel) rfl) pa_nil)))))
          (pw_or1 (pt_cmpR op_gt (pe_callB call_len_seq (by rfl) T.len PySem.boot_len (pa_cons (pv 0) pa_nil)) pe_int (nomark _)))))
        (pss_one (ps_ret (pe_un un_neg pe_int))) pss_nil)
      (pss_cons (ps_set (i := 1) scDue.nd rfl (Or.inr rfl) (pe_lst pa_nil))
      (pss_cons (ps_for PassesOwn.never rfl (pi_en (by rfl) T.enum (pa_cons (pv 0) pa_nil)) (pg_tup rfl (pgs_cons (pg_name (i := 2) scDue.nd rfl (Or.inl rfl)) (pgs_cons (pg_name (i := 3) scDue.nd rfl (Or.inl rfl)) pgs_nil)))
        (C8.pss_cut (ps_if (PW.pt (pw_or (pt_not (pt_val (C8.pe_c cC hr (by decide) (by rfl) (pa_cons (pv 3) pa_nil)))) (pw_or1 (pt_cmpR (op_inD (u65 hr)) (pv 3) (pv 1) (by rfl))))) (pss_one (ps_ret (pv 2))) pss_nil)
        (pss_cons (ps_if (pt_not (pt_val (pe_callB (cr_all rfl) (by rfl) T.all (by decide +kernel) (pa_cons (pe_lc (own := [("_law_face", 4)]) (g := gName 4) (tt := tYes) (te := tOp (rInD K) (tVar 4) (tVar 1)) rfl scDue.nd (pi_list (C8.pe_c cF hr (by decide) (by rfl) (pa_cons (pv 3) pa_nil))) (blkOk_by (N := dueN) (sc := defScope sDue) (by decide +kernel))
              (fun _ _ _ _ _ => pg_name (i := 4) scDue.nd rfl (Or.inl rfl)) (fun _ _ _ _ _ => pts_nil) (fun _ _ _ _ _ => pe_cmpR (op_inD (u65 hr)) (pv 4) (pv 1) (by rfl))) pa_nil))))
            (pss_one (ps_ret (pv 2))) pss_nil)
        (pss_one (ps_expr (pe_bm PySem.F.plainAttrs_list PySem.F.slot_list_append PySem.F.type_list_append mt_append (pv 1) (pa_cons (pv 3) pa_nil)))))))
      (pss_one (ps_ret pe_non)))), ?_⟩
    have th0 := th.1
    unfold Th at th0
    obtain ⟨t, ty, _, _, kt⟩ := th0
    refine ⟨fun σ' H1 => σ' = [some y, Option.none, Option.none, Option.none, Option.none] ∧ H1 = H ∧ ∃ b xs, y = .ref b ∧ H b = some (.tup xs) ∧ xs.length ≤ 40, ?_, ?_⟩
    · rcases kt with ⟨kt, nt⟩ | ⟨kt, b, xs, rfl, hb, it⟩
      · refine ⟨_, rfl, y, .ty "tuple", t, .type "tuple", _, rfl, .ty _, ty, kt, _, rfl, ?_⟩
        refine iteT (iteT ⟨1, rfl, kV _ _ (.inl ⟨rfl, ?_⟩) Ext.rfl'⟩)
        rintro ⟨b, xs, e, hb, _⟩
        obtain ⟨o, h1, h2⟩ := nt b e
        rw [hb] at h1
        cases h1
        exact absurd rfl (h2 xs)
      · refine ⟨_, rfl, _, .ty "tuple", t, .type "tuple", _, rfl, .ty _, ty, kt, _, rfl, ?_⟩
        refine iteF ⟨_, rfl, b, xs, rfl, .inr (SqT.of hb), _, _, rfl, rfl, _, rfl, ?_⟩
        refine ite2 (fun z => ?_) (fun z => ?_)
        · have hl := of_decide_eq_true z
          refine ⟨1, rfl, kV _ _ (.inl ⟨rfl, ?_⟩) Ext.rfl'⟩
          rintro ⟨b', xs', e, hb', hl'⟩
          cases e
          rw [hb] at hb'
          cases hb'
          omega
        · have hl : ¬ (40 : Int) < (xs.length : Int) := fun q => z (decide_eq_true q)
          exact ⟨rfl, rfl, b, xs, rfl, hb, by omega⟩
    · rintro σ' H0 ⟨rfl, rfl, b, xs, rfl, hb, hl⟩
      have it := th.1.items hb
      have sm := (th.2 b xs rfl hb).2
      refine ⟨Nat.zero_le _, fun L nL => ?_⟩
      have eL := Ext.upd (o := .lst []) nL
      have nbL : b ≠ L := ne_of_none hb nL
      refine ⟨_, rfl, b, xs, rfl, eL _ _ hb, for_en (a := b) (xs := xs) (fun i σ' H2 => (∃ u v, σ' = [some (.ref b), some (.ref L), u, v, Option.none]) ∧ Ext H0 H2 ∧ ∃ as ll, xs.take i = as.map V.ref ∧ PT2 H0 as ll ∧ GoodT ll ∧ H2 L = some (.lst (as.map V.ref)) ∧ as.length ≤ i)
        ⟨⟨_, _, rfl⟩, eL, [], [], rfl, .nil, True.intro, upd_same, Nat.le_refl _⟩ (fun i σ' H2 h => h.2.1 _ _ hb) ?_ ?_⟩
      · rintro i z σ' H2 q hz ⟨⟨u, v, rfl⟩, e2, as, ll, tk, pt, gd, hL, li⟩ nq
        have e3 : Ext H0 (upd H2 q (.tup [.int (i : Nat), z])) := e2.trans (Ext.upd nq)
        have hL3 := Ext.upd (o := .tup [.int (i : Nat), z]) nq _ _ hL
        have hi := (List.getElem?_eq_some_iff.mp hz).1
        have tz := it z (List.mem_of_getElem? hz)
        have bad : ¬ OkV H0 ll z → DueV H0 (.ref b) (.int (i : Int)) := fun no => .inr ⟨b, xs, i, z, as, ll, rfl, hb, hl, rfl, hz, tk, pt, gd, no⟩
        refine ⟨q, _, rfl, SqT.of upd_same, rfl, _, _, rfl, _, _, rfl, rfl, ?_⟩
        refine ⟨fun σ' H' => σ' = [some (.ref b), some (.ref L), some (.int (i : Int)), some z, Option.none] ∧ Ext H0 H' ∧ H' L = some (.lst (as.map V.ref)) ∧ ∃ c ns, z = .ref c ∧ H0 c = some (.tup (ns.map V.int)) ∧ CellL ns ∧ ns ∉ ll, ?_, ?_⟩
        · refine ⟨_, rfl, z, rfl, tz.ext e3, (sm z (List.mem_of_getElem? hz)).ext e3 tz, fun bb H3 hbb e4 => ⟨_, rfl, ?_⟩⟩
          have e34 := e3.trans e4
          cases bb with
          | false =>
            refine iteT (iteT ⟨_, rfl, kV _ _ (bad fun ⟨c, ns, ez, hc, o⟩ => ?_) e34⟩)
            have := hbb.mpr ⟨c, ns, ez, e3 _ _ hc, o.1⟩
            cases this
          | true =>
            obtain ⟨c, ns, rfl, hc3, cl⟩ := hbb.mp rfl
            have hc := tz.tup_back e3 hc3
            refine iteF ⟨_, rfl, _, rfl, in_L (e34 _ _ hc) (e4 _ _ hL3) (PT2.mono (fun _ _ z => e34 _ _ z) pt) ⟨_, rfl, ?_⟩⟩
            refine ite2 (fun y => ?_) (fun y => ?_)
            · refine ⟨_, rfl, kV _ _ (bad fun ⟨c', ns', ez, hc', o⟩ => ?_) e34⟩
              cases ez
              rw [hc] at hc'
              injection hc' with hc'
              injection hc' with hc'
              rw [← int_inj hc'] at o
              exact o.2.1 (of_decide_eq_true y)
            · exact ⟨rfl, e34, e4 _ _ hL3, c, ns, rfl, hc, cl, fun q => y (decide_eq_true q)⟩
        · rintro σ' H3 ⟨rfl, e4, hL4, c, ns, rfl, hc, cl, nin⟩
          refine ⟨_, rfl, c, ns, rfl, e4 _ _ hc, cl.1, cl.2.1, fun fl fs H4 e5 hf pf => ⟨fl, rfl, ⟨_, SqL.of hf⟩, fun D nD => ?_⟩⟩
          have e45 := e4.trans e5
          refine lc_list (K := K) (a := fl) (xs := fs.map V.ref) (fun j H' => Ext H4 H' ∧ H' D = some (.lst ((((facesL ns).take j).map fun f => decide (f ∈ ll)).map V.bl))) ⟨Ext.upd nD, upd_same⟩ (fun j H' _ z => SqL.of (z.1 _ _ hf)) ?_ ?_
          · rintro j u H' hu ⟨ex, hD⟩
            rw [List.getElem?_map] at hu
            cases hj : fs[j]? with
            | none => rw [hj] at hu; cases hu
            | some g =>
              rw [hj] at hu
              cases hu
              obtain ⟨fl', hfl, hg⟩ := pf.get hj
              have ex0 := e45.trans ex
              have lf : (facesL ns).length ≤ 4 := by
                unfold facesL
                split
                · decide
                · rw [List.length_map, List.length_range]; exact cl.2.1
              refine ⟨rfl, tyes_in ⟨_, rfl, _, rfl, in_L (ex _ _ hg) (ex _ _ (e5 _ _ hL4)) (PT2.mono (fun _ _ z => ex0 _ _ z) pt) ⟨_, hD, small1000 (by rw [List.length_map, List.length_map, List.length_take]; omega), fun b' o eo => ?_, ?_⟩⟩⟩
              · rw [upd_ne (ne_of_none eo nD)]
                exact ex _ _ eo
              · rw [upd_same, List.take_succ, hfl, List.map_append, List.map_append]
                rfl
          · rintro H' ⟨ex, hD⟩
            have lf : (fs.map V.ref).length = (facesL ns).length := by rw [List.length_map, PT2.len pf]
            rw [lf, List.take_of_length_le (Nat.le_refl _)] at hD
            have e46 := e45.trans ex
            cases ball : ((facesL ns).map fun f => decide (f ∈ ll)).all id with
            | false =>
              refine ⟨D, _, rfl, SqL.of hD, false, congrArg V.bl ball, ?_⟩
              refine iteT ⟨_, rfl, kV _ _ (bad fun ⟨c', ns', ez, hc', o⟩ => ?_) e46⟩
              cases ez
              rw [hc] at hc'
              injection hc' with hc'
              injection hc' with hc'
              rw [← int_inj hc'] at o
              have : ((facesL ns).map fun f => decide (f ∈ ll)).all id = true := List.all_eq_true.mpr fun bb hbb => by
                obtain ⟨g, hg, rfl⟩ := List.mem_map.mp hbb
                exact decide_eq_true (o.2.2 g hg)
              rw [this] at ball
              cases ball
            | true =>
              refine ⟨D, _, rfl, SqL.of hD, true, congrArg V.bl ball, ?_⟩
              have hL6 := ex _ _ (e5 _ _ hL4)
              refine iteF ⟨_, rfl, .inl ⟨rfl, _, SqL.of hL6⟩, _, rfl, L, _, _, rfl, rfl, hL6, small1000 (by rw [List.length_map]; omega), ?_⟩
              refine ⟨⟨_, _, rfl⟩, fun b' o eo => ?_, as ++ [c], ll ++ [ns], ?_, PT2.snoc pt hc, good_snoc.mpr ⟨gd, cl, nin, fun g hg => ?_⟩, ?_, by rw [List.length_append]; exact Nat.succ_le_succ li⟩
              · rw [upd_ne (ne_of_none eo nL)]
                exact e46 _ _ eo
              · rw [List.take_succ, hz, tk, List.map_append]
                rfl
              · exact of_decide_eq_true (List.all_eq_true.mp ball _ (List.mem_map_of_mem hg))
              · rw [upd_same, List.map_append]
                rfl
      · rintro σ' H2 ⟨⟨u, v, rfl⟩, e2, as, ll, tk, pt, gd, hL, li⟩
        rw [List.take_of_length_le (Nat.le_refl _)] at tk
        subst tk
        exact kN _ ⟨b, as, ll, rfl, hb, by rw [List.length_map] at hl; exact hl, pt, gd⟩ e2
theorem scSame : FnScope ["_law_told", "_law_due_here"] ["_law_told", "_law_due_here"] (defScope sSame) := ⟨rfl, rfl, rfl, by decide +kernel, rfl, by decide +kernel, by decide +kernel⟩
theorem ok_same {f : Addr} {fd : FuncData} (F : L2.Fun K "_law_same" "_law_same" sSame f fd) (T : Gb mg) : FnOk P w K mg base CX0 1 f fd ["_law_told", "_law_due_here"] spSame := by
  refine F.ok scSame (fun vs H Q E h => ?_) (fun cdv A outer s H vs Q E hr h => ?_)
  · obtain ⟨v, rfl, _⟩ := h
    rfl
  · obtain ⟨v, rfl, hv, k⟩ := h
    refine ⟨_, pss_cons (ps_if (PW.pt (pw_or (pt_cmpR op_isN (pv 1) pe_non (nomark _)) (pw_or1 (pt_cmpR op_isN (pv 0) pe_non (nomark _)))))
        (pss_one (ps_ret (pe_and (pe_cmpR op_isN (pv 0) pe_non (nomark _)) (pe_one (pe_cmpR op_isN (pv 1) pe_non (nomark _)))))) pss_nil)
      (pss_one (ps_ret (pe_and (pe_callB call_isi (by rfl) T.isi (by decide +kernel) (pa_cons (pv 0) (pa_cons (pe_bltn (v := .ty "int") (by rfl) T.int (by decide +kernel) rfl) pa_nil)))
        (pe_and (pe_not (pe_callB call_isi (by rfl) T.isi (by decide +kernel) (pa_cons (pv 0) (pa_cons (pe_bltn (v := .ty "bool") (by rfl) T.bool (by decide +kernel) rfl) pa_nil)))) (pe_one (pe_cmpR op_eq (pv 0) (pv 1) (nomark _))))))), ?_⟩
    rcases hv with rfl | ⟨i, rfl⟩
    · refine ⟨_, rfl, rfl, _, rfl, ?_⟩
      refine iteT (iteT ⟨_, rfl, rfl, _, rfl, ?_⟩)
      exact iteT ⟨_, rfl, rfl, k⟩
    · refine ⟨_, rfl, rfl, _, rfl, ?_⟩
      refine iteF ⟨_, rfl, rfl, _, rfl, ?_⟩
      refine iteF ?_
      refine ⟨_, rfl, _, .ty "int", .type "int", .type "int", true, rfl, .ty _, .base (.int i), kit_ty (by decide +kernel), _, rfl, ?_⟩
      refine iteT ⟨_, rfl, _, .ty "bool", .type "int", .type "bool", false, rfl, .ty _, .base (.int i), kit_ty (by decide +kernel), _, rfl, _, rfl, ?_⟩
      refine iteT ⟨_, rfl, _, rfl, rfl, ?_⟩
      rw [decide_eq_true (rfl : V.int i = V.int i)]
      exact k
end
end T39

set_option Elab.async false
set_option linter.all false
set_option maxRecDepth 100000
set_option maxHeartbeats 4000000
set_option pp.maxSteps 60
/-! The bag. -/
namespace T39
open PySem L2
section
variable {P : Program} {w : World} {K : PySem.W.Frag} {mg : Str → Option Value} {base : Heap}
abbrev bagN : List Str := ["_law_script", "_law_great", "_law_seed", "_law_cell"]
theorem scBag : FnScope bagN ["_law_script"] (defScope sBag) := ⟨rfl, rfl, rfl, by decide +kernel, rfl, by decide +kernel, by decide +kernel⟩
theorem ok_bag {f : Addr} {fd : FuncData} (F : L2.Fun K "_law_bag" "_law_bag" sBag f fd) (T : Gb mg) : FnOk P w K mg base CX0 1 f fd ["_law_script"] (spBag K) := by
  refine F.ok scBag (fun vs H Q E h => ?_) (fun cdv A outer s H vs Q E hr h => ?_)
  · obtain ⟨a, ns, rfl, _⟩ := h
    rfl
  · obtain ⟨a, ns, rfl, hS, hlen, k⟩ := h
    refine ⟨_, pss_cons (ps_setLc (i := 1) (own := [("_law_cell", 3)]) (g := gName 3) rfl scBag.nd rfl rfl (sw_true rfl rfl rfl (by decide +kernel)) (pi_list (pe_slice sl_list (pv 0) po_none (po_some pe_int))) (blkOk_by (N := bagN) (sc := defScope sBag) (by decide +kernel))
        (fun _ _ _ _ _ => pg_name (i := 3) scBag.nd rfl (Or.inl rfl))
        (fun _ _ _ _ _ => pts_one (pt_cmpR op_ge (pe_callB call_abs (by rfl) T.abs (by decide +kernel) (pa_cons (pe_callTy call_int1 (by rfl) T.int (by decide +kernel) (pa_cons (pv 3) pa_nil)) pa_nil)) (pe_op op_pow pe_int pe_int) (nomark _)))
        (fun _ _ _ _ _ => pe_callB call_abs (by rfl) T.abs (by decide +kernel) (pa_cons (pe_callTy call_int1 (by rfl) T.int (by decide +kernel) (pa_cons (pv 3) pa_nil)) pa_nil)))
      (pss_cons (ps_set (i := 2) scBag.nd rfl (Or.inl rfl) pe_int)
      (pss_cons (ps_for PassesOwn.never rfl (pi_list (pe_slice sl_list (pv 0) po_none (po_some pe_int))) (pg_name (i := 3) scBag.nd rfl (Or.inl rfl))
        (pss_one (ps_set (i := 2) scBag.nd rfl (Or.inl rfl) (pe_op op_mod (pe_callTy call_int1 (by rfl) T.int (by decide +kernel) (pa_cons
          (pe_op op_add (pe_op op_add (pe_op op_add (pe_op op_mul (pv 2) pe_int) (pe_op op_mul (pe_callB call_abs (by rfl) T.abs (by decide +kernel) (pa_cons (pe_callTy call_int1 (by rfl) T.int (by decide +kernel) (pa_cons (pv 3) pa_nil)) pa_nil)) pe_int))
            (pe_callTy call_int1 (by rfl) T.int (by decide +kernel) (pa_cons (pe_cmpR op_lt (pe_callTy call_int1 (by rfl) T.int (by decide +kernel) (pa_cons (pv 3) pa_nil)) pe_int (nomark _)) pa_nil))) pe_int) pa_nil)) pe_int))))
      (pss_one (ps_ret (pe_lst (pa_cons (pv 1) (pa_cons (pv 2) (pa_cons (pe_callB call_len_seq (by rfl) T.len PySem.boot_len (pa_cons (pv 0) pa_nil)) (pa_cons pe_int pa_nil))))))))), ?_⟩
    have all : ∀ y ∈ cutV (ns.map V.int) Option.none (some 63), ∃ i, y = V.int i := fun y hy => by
      have hy := List.mem_of_mem_drop (List.mem_of_mem_take hy)
      obtain ⟨i, _, rfl⟩ := List.mem_map.mp hy
      exact ⟨i, rfl⟩
    have cl : (cutV (ns.map V.int) Option.none (some 63)).length ≤ 63 := Nat.le_trans (cutV_length _ _ _) (by rw [List.length_map]; exact hlen)
    refine ⟨_, rfl, 63, rfl, a, _, rfl, hS, fun l nl => ?_⟩
    generalize cutV (ns.map V.int) Option.none (some 63) = xs at *
    refine ⟨l, rfl, ⟨_, SqL.of upd_same⟩, fun D nD => lc_list (K := K) (a := l) (xs := xs) (fun i H' => ∃ cs : List Int, H' = upd (upd H l (.lst xs)) D (.lst (cs.map V.int)) ∧ cs.length ≤ i) ⟨[], rfl, Nat.le_refl _⟩ (fun i H' _ ⟨cs, e, _⟩ => by rw [e]; exact SqL.of (Ext.upd nD _ _ upd_same)) ?_ ?_⟩
    · rintro i y H' hy ⟨cs, rfl, hc⟩
      obtain ⟨z, rfl⟩ := all y (List.mem_of_getElem? hy)
      have hi := (List.getElem?_eq_some_iff.mp hy).1
      refine ⟨rfl, _, rfl, .inl ⟨_, rfl, _, rfl, _, _, rfl, rfl, ⟨by decide, by decide, by decide⟩, _, _, rfl, rfl, _, rfl, ?_⟩⟩
      refine ite2 (fun _ => ?_) (fun _ => ⟨cs, rfl, by omega⟩)
      refine ⟨_, rfl, .inl ⟨_, rfl, _, rfl, ?_⟩⟩
      refine ⟨_, upd_same, by rw [List.length_map]; exact small1000 (by omega), cs ++ [if z < 0 then -z else z], ?_, by rw [List.length_append]; exact Nat.succ_le_succ hc⟩
      rw [upd_upd, List.map_append]
      rfl
    · rintro H' ⟨cs, rfl, hc⟩
      have e1 : Ext H (upd (upd H l (.lst xs)) D (.lst (cs.map V.int))) := (Ext.upd nl).trans (Ext.upd nD)
      have gD : (upd (upd H l (.lst xs)) D (.lst (cs.map V.int))) D = some (.lst (cs.map V.int)) := upd_same
      generalize upd (upd H l (.lst xs)) D (.lst (cs.map V.int)) = H1 at *
      refine ⟨_, rfl, 63, rfl, a, _, rfl, hS.ext e1, fun l2 nl2 => ?_⟩
      have e2 := Ext.upd (o := .lst (cutV (ns.map V.int) Option.none (some 63))) nl2
      refine ⟨l2, rfl, ⟨_, SqL.of upd_same⟩, for_list (K := K) (a := l2) (xs := cutV (ns.map V.int) Option.none (some 63)) (fun i σ' H' => (∃ (z : Int) (v : Option V), σ' = [some (.ref a), some (.ref D), some (.int z), v]) ∧ H' = upd H1 l2 (.lst (cutV (ns.map V.int) Option.none (some 63)))) ⟨⟨139, _, rfl⟩, rfl⟩ (fun i σ' H' _ h => by rw [h.2]; exact SqL.of upd_same) ?_ ?_⟩
      · rintro i y σ' H' hy ⟨⟨z, v, rfl⟩, rfl⟩
        obtain ⟨c, hc'⟩ : ∃ c, y = V.int c := by
          have hy := List.mem_of_mem_drop (List.mem_of_mem_take (List.mem_of_getElem? hy))
          obtain ⟨i, _, rfl⟩ := List.mem_map.mp hy
          exact ⟨i, rfl⟩
        subst hc'
        refine ⟨_, rfl, _, _, rfl, rfl, .inr ⟨by decide, by decide⟩, ?_⟩
        refine ⟨_, rfl, .inl ⟨_, rfl, _, rfl, _, _, rfl, rfl, .inr ⟨by decide, by decide⟩, _, _, rfl, rfl, _, rfl, .inl ⟨_, rfl, _, _, rfl, rfl, .inr ⟨_, rfl, _, _, rfl, rfl, _, _, rfl, rfl, .inl ⟨_, rfl, _, _, rfl, rfl, (by show (0 : Int) < 2147483629; decide), ?_⟩⟩⟩⟩⟩
        exact ⟨⟨_, _, rfl⟩, rfl⟩
      · rintro σ' H' ⟨⟨z, v, rfl⟩, rfl⟩
        refine ⟨_, rfl, _, rfl, _, rfl, a, _, rfl, .inl ((hS.ext e1).ext e2), (by show 4 ≤ sizeLine; decide), fun r nr => ?_⟩
        exact k r D _ (fun b o hb => Ext.upd nr _ _ (e2 _ _ (e1 _ _ hb))) ⟨cs, z, _, 0, upd_same, Ext.upd nr _ _ (e2 _ _ gD)⟩
end
end T39

set_option Elab.async false
set_option linter.all false
set_option maxRecDepth 100000
set_option maxHeartbeats 4000000
set_option pp.maxSteps 60
/-! What BadTower tells: the law's own try. -/
namespace T39
open PySem L2
structure WordT (K : PySem.W.Frag) (CB : Addr) : Prop where
  xf : XfC K CB
  te : PySem.W.exmOne K (.ref CB) (.ref CB) = some true
section
variable {P : Program} {w : World} {K : PySem.W.Frag} {mg : Str → Option Value} {base : Heap}
theorem scWord : FnScope ["_law_thing", "_law_found", "e"] ["_law_thing"] (defScope sWord) := ⟨rfl, rfl, rfl, by decide +kernel, rfl, by decide +kernel, by decide +kernel⟩
theorem ok_word {f fT fB CT CB : Addr} {fd fdT : FuncData} (F : L2.Fun K "_law_word" "_law_word" sWord f fd) (W : TowK K mg CT) (B : BadC K mg CB fB) (R : WordT K CB) (M : Mk K CT fT)
    (FT : FnOk P w K mg base (L2.CX P w) 5 fT fdT ["self", "cells"] (spTow K CT CB)) (bT : Binds K fdT ["self", "cells"] []) : FnOk P w K mg base CX0 7 f fd ["_law_thing"] (spDue K) := by
  refine F.ok scWord (fun vs H Q E h => ?_) (fun cdv A outer s H vs Q E hr h => ?_)
  · obtain ⟨y, rfl, _⟩ := h
    rfl
  · obtain ⟨y, rfl, ty, kN, kV⟩ := h
    refine ⟨_, pss_cons (ps_set (i := 1) scWord.nd rfl (Or.inl rfl) pe_non)
      (pss_cons (ps_try_each (i := 2) rfl rfl scWord.nd rfl rfl
        (fun W' pn xe tk _ => pss_one (ps_expr (pe_makeS M FT hr (by rfl) W.mgC bT (fun σ => passAt tk σ) (pa_cons (pv 0) pa_nil))))
        (.cons ⟨rfl, by decide, .inl B.gC⟩ (fun a oe cls d pn hz hf => pss_one (ps_set (i := 1) scWord.nd rfl (Or.inl rfl) (pe_xf R.xf B.noI hz hf (pv 2)))) .nil))
      (pss_one (ps_ret (pv 1)))), ?_⟩
    refine ⟨_, rfl, fun o d no nd ne => ?_⟩
    have e1 : Ext H (upd (upd H d (.own o)) o (.ins CT d [])) := (Ext.upd (o := .own o) nd).trans (Ext.upd (p := o) (o := .ins CT d []) (by rw [upd_ne ne.symm]; exact no))
    refine ⟨o, d, y, rfl, upd_same, ty.ext e1, fun b H' ey g hw kp => ⟨rfl, ?_⟩, fun v dd H' dv nd' hd ex => ?_⟩
    · have e2 : Ext H H' := fun c u hc => kp c u (fun z => by rw [z, no] at hc; cases hc) (e1 _ _ hc)
      exact ⟨_, rfl, kN _ (g.back e1 ty) e2⟩
    · refine ⟨true, R.te, fun a na => ?_⟩
      exact ⟨_, rfl, rfl, rfl, dd, _, v, rfl, hd, rfl, _, rfl, kV v _ (dv.back e1 ty) (e1.trans ex)⟩
end
end T39

set_option Elab.async false
set_option linter.all false
set_option maxRecDepth 100000
set_option maxHeartbeats 4000000
set_option pp.maxSteps 60
/-! A drawn tower grown. -/
namespace T39
open PySem L2
abbrev sGrown : Stmt := top 22
/-- a test whose answers go on with what they leave alone -/
def tCutT (t : L2.TT) : L2.TT := fun σ H Q => ∃ M : Bool → Hp → Prop, t σ H M ∧ ∀ c H1, M c H1 → Q c H1
theorem pt_cutT {X : Cx} {e : Expr} {t : L2.TT} (h : PT X e t) : PT X e (tCutT t) := ⟨fun pins s σ H Q I hw => by
  obtain ⟨M, hm, k⟩ := hw
  refine wpAny_mono (h.run pins s σ H M I hm) (fun c s1 ⟨H1, I1, m⟩ => ⟨H1, I1, k _ _ m⟩) fun _ _ z => z⟩
/-! ### what is free -/
def fr (i : Nat) (ps : List Int) : List Int := ((List.range i).map fun k : Nat => (0 + (k : Int))).filter fun p => !decide (p ∈ ps)
theorem fr_succ (i : Nat) (ps : List Int) : fr (i + 1) ps = fr i ps ++ (if (0 + (i : Int)) ∈ ps then [] else [0 + (i : Int)]) := by
  unfold fr
  rw [List.range_succ, List.map_append, List.filter_append]
  congr 1
  simp only [List.map_cons, List.map_nil]
  by_cases h : (0 + (i : Int)) ∈ ps
  · rw [if_pos h, List.filter_cons, decide_eq_true h]
    rfl
  · rw [if_neg h, List.filter_cons, decide_eq_false h]
    rfl
theorem fr_mem {i : Nat} {ps : List Int} {p : Int} (h : p ∈ fr i ps) : 0 ≤ p ∧ p < i ∧ p ∉ ps := by
  unfold fr at h
  obtain ⟨h1, h2⟩ := List.mem_filter.mp h
  obtain ⟨k, hk, rfl⟩ := List.mem_map.mp h1
  have := List.mem_range.mp hk
  have h3 : ¬ (0 + (k : Int)) ∈ ps := fun z => by
    rw [decide_eq_true z] at h2
    cases h2
  exact ⟨by omega, by omega, h3⟩
theorem fr_le {i : Nat} {ps : List Int} : (fr i ps).length ≤ i := by
  unfold fr
  refine Nat.le_trans (List.length_filter_le _ _) ?_
  rw [List.length_map, List.length_range]
  exact Nat.le_refl _
theorem many_left : ∀ (ps R : List Int), R.Nodup → R.length ≤ (R.filter fun p => !decide (p ∈ ps)).length + ps.length
  | [], R, _ => by
    rw [List.filter_eq_self.mpr fun x _ => by simp]
    exact Nat.le_add_right _ _
  | p :: ps, R, nd => by
    have e : (R.filter fun x => !decide (x ∈ p :: ps)) = (R.filter (fun x => x != p)).filter fun x => !decide (x ∈ ps) := by
      rw [List.filter_filter]
      refine List.filter_congr fun x _ => ?_
      by_cases h : x = p <;> by_cases g : x ∈ ps <;> simp [h, g]
    have e2 := nd.erase_eq_filter p
    have ih := many_left ps (R.filter (fun x => x != p)) (by rw [← e2]; exact nd.erase p)
    have l1 : R.length ≤ (R.filter (fun x => x != p)).length + 1 := by
      rw [← e2, List.length_erase]
      split <;> omega
    rw [e, List.length_cons]
    omega
theorem fr_many {ps : List Int} : 30 ≤ (fr 30 ps).length + ps.length := by
  have nd : ((List.range 30).map fun k : Nat => (0 + (k : Int))).Nodup := by decide +kernel
  have := many_left ps _ nd
  rw [List.length_map, List.length_range] at this
  exact this
theorem inV_ints (p : Int) : ∀ ps : List Int, inV (.int p) (ps.map V.int) = decide (p ∈ ps)
  | [] => by simp [inV]
  | q :: ps => by
    have ih := inV_ints p ps
    unfold inV at ih ⊢
    rw [List.map_cons, List.any_cons, ih]
    show ((q == p) || _) = _
    by_cases h : q = p
    · simp [h]
    · have h' : ¬ p = q := fun e => h e.symm
      simp [h, h']
theorem flat_ints (ps : List Int) : (ps.map V.int).all flatV = true := List.all_eq_true.mpr fun y hy => by
  obtain ⟨i, _, rfl⟩ := List.mem_map.mp hy
  rfl
theorem erase_map : ∀ (l : List Int) (k : Nat), (l.map V.int).eraseIdx k = (l.eraseIdx k).map V.int
  | [], k => rfl
  | x :: l, 0 => rfl
  | x :: l, k + 1 => by
    rw [List.map_cons, List.eraseIdx_cons_succ, List.eraseIdx_cons_succ, erase_map l k]
    rfl
theorem rise_of {ns : List Int} (h : ns.Pairwise (· ≤ ·)) (nd : ns.Nodup) : ns.Pairwise (· < ·) := by
  have := List.Pairwise.and h nd
  exact this.imp fun ⟨x, y⟩ => by omega
/-- what stands in the list of cells and in the list of points -/
structure GrH (L G : Addr) (as : List Addr) (ll : List (List Int)) (ps : List Int) (H : Hp) : Prop where
  l : H L = some (.lst (as.map V.ref))
  g : H G = some (.lst (ps.map V.int))
  pt : PT2 H as ll
theorem GrH.go {a c L G : Addr} {as : List Addr} {ll : List (List Int)} {ps : List Int} {H H' : Hp} (nL : L ≠ a ∧ L ≠ c) (nG : G ≠ a ∧ G ≠ c) (bag : BagAt H a c) (go : Go a c H H') (h : GrH L G as ll ps H) : GrH L G as ll ps H' :=
  ⟨go.2 _ _ nL.1 nL.2 h.1, go.2 _ _ nG.1 nG.2 h.2, PT2.mono (fun _ _ z => Go.tup bag go z) h.3⟩
theorem GrH.ext {L G : Addr} {as : List Addr} {ll : List (List Int)} {ps : List Int} {H H' : Hp} (e : Ext H H') (h : GrH L G as ll ps H) : GrH L G as ll ps H' := ⟨e _ _ h.1, e _ _ h.2, PT2.mono (fun _ _ z => e _ _ z) h.3⟩
theorem GrH.put {L G D : Addr} {as : List Addr} {ll : List (List Int)} {ps : List Int} {H : Hp} {o : HO} {xs : List V} (hD : H D = some (.lst xs)) (nL : L ≠ D) (nG : G ≠ D) (h : GrH L G as ll ps H) : GrH L G as ll ps (upd H D o) :=
  ⟨by rw [upd_ne nL]; exact h.1, by rw [upd_ne nG]; exact h.2, PT2.mono (fun b ys z => by rw [upd_ne (lst_ne hD z)]; exact z) h.3⟩
theorem Go.none_back {a c b : Addr} {H H' : Hp} (g : Go a c H H') (nb : H' b = none) : H b = none := by
  cases q : H b with
  | none => rfl
  | some o =>
    obtain ⟨n1, n2⟩ := g.1.ne nb
    rw [g.2 _ _ n1 n2 q] at nb
    cases nb
theorem seqI {n : Nat} {r : Int} (h0 : 0 ≤ r) (h : r < n) : seqIndex? r n = some r.toNat := by
  unfold seqIndex?
  have c1 : ¬ r < 0 := by omega
  simp only [c1, if_false]
  rw [if_pos (by simp; omega)]
def spGrown : Sp := fun vs H Q _ => ∃ (a c : Addr) (m : Nat), vs = [.ref a, .int (m : Int)] ∧ BagAt H a c ∧ 1 ≤ m ∧ m ≤ 40 ∧
  ∀ (l : Addr) (as : List Addr) (ll : List (List Int)) (H' : Hp), Go a c H H' → l ≠ a → l ≠ c → H' l = some (.lst (as.map V.ref)) → PT2 H' as ll → GoodT ll → 1 ≤ as.length → as.length ≤ 40 → Q (.ref l) H'
section
variable {P : Program} {w : World} {K : PySem.W.Frag} {mg : Str → Option Value} {base : Heap}
abbrev grownN : List Str := ["_law_bag_here", "_law_many", "_law_cells", "_law_points", "_law_width", "_law_turn", "_law_pool", "_law_size", "_law_cell", "_law_free", "_law_point", "_law_face"]
theorem scGrown : FnScope grownN ["_law_bag_here", "_law_many"] (defScope sGrown) := ⟨rfl, rfl, rfl, by decide +kernel, rfl, by decide +kernel, by decide +kernel⟩
theorem ok_grown {f : Addr} {fd : FuncData} (F : L2.Fun K "_law_grown" "_law_grown" sGrown f fd) (T : Gb mg) (cP : Cal P w K mg base 1 "_law_pick" spPick []) (cS : Cal P w K mg base 2 "_law_some" spSome []) (cF : Cal P w K mg base 1 "_law_faces" spFaces []) : FnOk P w K mg base CX0 3 f fd ["_law_bag_here", "_law_many"] spGrown := by
  refine F.ok scGrown (fun vs H Q E h => ?_) (fun cdv A outer s H vs Q E hr h => ?_)
  · obtain ⟨a, c, m, rfl, _⟩ := h
    rfl
  · obtain ⟨a, c, m, rfl, bag, m1, m40, k⟩ := h
    refine ⟨_, pss_cons (ps_asg (pe_tup (pa_cons (pe_lst pa_nil) (pa_cons (pe_lst pa_nil) pa_nil))) (pg_tup rfl (pgs_cons (pg_name (i := 2) scGrown.nd rfl (Or.inr rfl)) (pgs_cons (pg_name (i := 3) scGrown.nd rfl (Or.inr rfl)) pgs_nil))))
      (pss_cons (ps_set (i := 4) scGrown.nd rfl (Or.inl rfl) (pe_op op_add pe_int (C8.pe_c cP hr (by decide) (by rfl) (pa_cons (pv 0) (pa_cons pe_int pa_nil)))))
      (pss_cons (ps_for PassesOwn.never rfl (pi_range1 (by rfl) T.rng (pa_cons (pe_op op_mul pe_int (pv 1)) pa_nil)) (pg_name (i := 5) scGrown.nd rfl (Or.inl rfl))
        (pss_one (ps_if (pt_cmpR op_lt (pe_callB call_len_seq (by rfl) T.len PySem.boot_len (pa_cons (pv 2) pa_nil)) (pv 1) (nomark _))
          (pss_cons (ps_par (i := 6) (j := 7) rfl scGrown.nd rfl rfl (by decide) rfl rfl (pa_cons (pe_callTy call_list_of (by rfl) T.list (by decide +kernel) (pa_cons (pv 3) pa_nil)) (pa_cons (pe_op op_add pe_int (C8.pe_c cP hr (by decide) (by rfl) (pa_cons (pv 0) (pa_cons pe_int pa_nil)))) pa_nil)) (by rfl))
          (C8.pss_cut (ps_while PassesOwn.never (pt_cmpR op_gt (pe_callB call_len_seq (by rfl) T.len PySem.boot_len (pa_cons (pv 6) pa_nil)) (pv 7) (nomark _))
            (pss_one (ps_expr (pe_bm PySem.F.plainAttrs_list PySem.F.slot_list_pop PySem.F.type_list_pop mt_popAt (pv 6) (pa_cons (C8.pe_c cP hr (by decide) (by rfl) (pa_cons (pv 0) (pa_cons (pe_callB call_len_seq (by rfl) T.len PySem.boot_len (pa_cons (pv 6) pa_nil)) pa_nil))) pa_nil)))))
          (pss_cons (ps_set (i := 8) scGrown.nd rfl (Or.inl rfl) (pe_callTy call_tuple_of (by rfl) T.tup (by decide +kernel) (pa_cons (pe_callB cr_sorted (by rfl) T.sorted (by decide +kernel) (pa_cons (pv 6) pa_nil)) pa_nil)))
          (C8.pss_cut (ps_if (pt_cutT (PW.pt (pw_or (PW.pt (pw_and (pt_cmpR op_lt (pe_callB call_len_seq (by rfl) T.len PySem.boot_len (pa_cons (pv 3) pa_nil)) (pv 4) (nomark _)) (pw_and1 (pt_cmpR op_eq (C8.pe_c cP hr (by decide) (by rfl) (pa_cons (pv 0) (pa_cons pe_int pa_nil))) pe_int (nomark _)))))
              (pw_or1 (pt_cmpR op_eq (pe_callB call_len_seq (by rfl) T.len PySem.boot_len (pa_cons (pv 3) pa_nil)) pe_int (nomark _))))))
            (pss_cons (ps_setLc (i := 9) (own := [("_law_point", 10)]) (g := gName 10) (tt := tTest (tOp (rIn K true) (tVar 10) (tVar 3))) (te := tVar 10) rfl scGrown.nd rfl rfl (sw_true rfl rfl rfl (by decide +kernel)) (pi_range1 (by rfl) T.rng (pa_cons pe_int pa_nil)) (blkOk_by (N := grownN) (sc := defScope sGrown) (by decide +kernel))
                (fun _ _ _ _ _ => pg_name (i := 10) scGrown.nd rfl (Or.inl rfl)) (fun _ _ _ _ _ => pts_one (pt_cmpR op_notIn_seq (pv 10) (pv 3) (by rfl))) (fun _ _ _ _ _ => pv 10))
            (pss_cons (ps_set (i := 8) scGrown.nd rfl (Or.inl rfl) (pe_tup (pa_cons (pe_ix ix_list (pv 9) (C8.pe_c cP hr (by decide) (by rfl) (pa_cons (pv 0) (pa_cons (C8.pe_c cS hr (by decide) (by rfl) (pa_cons (pv 0) (pa_cons (pe_lst (pa_cons pe_int (pa_cons pe_int (pa_cons (pe_callB call_len_seq (by rfl) T.len PySem.boot_len (pa_cons (pv 9) pa_nil)) pa_nil)))) pa_nil))) pa_nil))) (fun _ _ => rfl)) pa_nil)))
            (pss_one (ps_expr (pe_bm PySem.F.plainAttrs_list PySem.F.slot_list_append PySem.F.type_list_append mt_append (pv 3) (pa_cons (pe_ix ix_tup (pv 8) pe_int (fun _ _ => rfl)) pa_nil)))))) pss_nil)
          (pss_one (ps_if (PW.pt (pw_and (pt_cmpR (op_notInD (u65 hr)) (pv 8) (pv 2) (by rfl)) (pw_and1 (pt_val (pe_callB (cr_all rfl) (by rfl) T.all (by decide +kernel) (pa_cons (pe_lc (own := [("_law_face", 11)]) (g := gName 11) (tt := tYes) (te := tOp (rInD K) (tVar 11) (tVar 2)) rfl scGrown.nd (pi_list (C8.pe_c cF hr (by decide) (by rfl) (pa_cons (pv 8) pa_nil))) (blkOk_by (N := grownN) (sc := defScope sGrown) (by decide +kernel))
                (fun _ _ _ _ _ => pg_name (i := 11) scGrown.nd rfl (Or.inl rfl)) (fun _ _ _ _ _ => pts_nil) (fun _ _ _ _ _ => pe_cmpR (op_inD (u65 hr)) (pv 11) (pv 2) (by rfl))) pa_nil))))))
            (pss_one (ps_expr (pe_bm PySem.F.plainAttrs_list PySem.F.slot_list_append PySem.F.type_list_append mt_append (pv 2) (pa_cons (pv 8) pa_nil)))) pss_nil)))))) pss_nil)))
      (pss_one (ps_ret (pv 2))))), ?_⟩
    refine ⟨Nat.zero_le _, fun L nL0 => ⟨Nat.zero_le _, fun G nG0 => ⟨by show 2 ≤ sizeLine; decide, fun t0 nt0 => ⟨t0, _, rfl, SqT.of upd_same, rfl, _, _, rfl, _, _, rfl, rfl, ?_⟩⟩⟩⟩
    have nL1 : H L = Option.none := nL0
    have nG1 : H G = Option.none := none_back (Ext.upd nL0) nG0
    have neLG : L ≠ G := ne_of_none upd_same nG0
    have nL := bag.ne nL1
    have nG := bag.ne nG1
    have go0 : Go a c H (upd (upd (upd H L (.lst [])) G (.lst [])) t0 (.tup [.ref L, .ref G])) := Go.of_ext bag (((Ext.upd nL0).trans (Ext.upd nG0)).trans (Ext.upd nt0))
    have gr0 : GrH L G [] [] [] (upd (upd (upd H L (.lst [])) G (.lst [])) t0 (.tup [.ref L, .ref G])) := ⟨Ext.upd nt0 _ _ (Ext.upd nG0 _ _ upd_same), Ext.upd nt0 _ _ upd_same, .nil⟩
    generalize upd (upd (upd H L (.lst [])) G (.lst [])) t0 (.tup [.ref L, .ref G]) = H0 at *
    refine ⟨_, rfl, a, c, 6, rfl, go0.1, by decide, by decide, fun r1 H1 a1 b1 g1 => ⟨_, _, rfl, rfl, ?_⟩⟩
    have go1 := go0.trans g1
    have gr1 := gr0.go nL nG go0.1 g1
    obtain ⟨wd, ewd⟩ : ∃ wd, wd = 2 + r1 := ⟨_, rfl⟩
    show gName 4 (V.int (2 + r1)) _ _ _
    rw [← ewd]
    have w7 : wd ≤ 7 := by omega
    refine ⟨_, rfl, _, _, rfl, rfl, .inl ⟨by decide, by decide⟩, _, rfl, by omega, by omega, for_range (lo := 0) (n := (5 * (m : Int)).toNat) (fun i σ' H' => (∃ v5 v6 v7 v8 v9 : Option V, σ' = [some (.ref a), some (.int (m : Int)), some (.ref L), some (.ref G), some (.int wd), v5, v6, v7, v8, v9, Option.none, Option.none]) ∧ Go a c H H' ∧ ∃ as ll ps, GrH L G as ll ps H' ∧ GoodT ll ∧ as.length ≤ m ∧ ps.Nodup ∧ (∀ p ∈ ps, 0 ≤ p ∧ p ≤ 29) ∧ ps.length ≤ 7 ∧ ((i = 0 ∧ ps = [] ∧ as = []) ∨ (1 ≤ as.length ∧ 1 ≤ ps.length))) ?_ ?_ ?_⟩
    · exact ⟨⟨_, _, _, _, _, rfl⟩, go1, [], [], [], gr1, True.intro, Nat.zero_le _, List.nodup_nil, (fun p h => by cases h), Nat.zero_le _, .inl ⟨rfl, rfl, rfl⟩⟩
    · rintro i σ' H2 hi ⟨⟨v5, v6, v7, v8, v9, rfl⟩, go2, as, ll, ps, gr2, gd, lm, nd, bd, l7, ini⟩
      refine ⟨_, rfl, L, _, rfl, .inl (SqL.of gr2.l), _, rfl, _, _, rfl, rfl, _, rfl, ?_⟩
      refine ite2 (fun q => ?_) (fun q => ?_)
      · have lm' : as.length < m := by
          have := of_decide_eq_true q
          rw [List.length_map] at this
          omega
        refine ⟨_, rfl, G, _, rfl, .inl (SqL.of gr2.g), fun D nD => ?_⟩
        have nD1 := go2.none_back nD
        have nDac := bag.ne nD1
        have go3 := Go.put (o := .lst (ps.map V.int)) bag go2 nD1
        have neLD : L ≠ D := ne_of_none gr2.l nD
        have neGD : G ≠ D := ne_of_none gr2.g nD
        refine ⟨_, rfl, a, c, 3, rfl, go3.1, by decide, by decide, fun r2 H4 a2 b2 g4 => ⟨_, _, rfl, rfl, _, _, rfl, ?_⟩⟩
        have go4 := go3.trans g4
        have gr4 := (gr2.ext (Ext.upd nD)).go nL nG go3.1 g4
        have hD4 := g4.2 _ _ nDac.1 nDac.2 (upd_same (H := H2) (a := D) (o := .lst (ps.map V.int)))
        refine ⟨fun σ' H' => σ' = [some (.ref a), some (.int (m : Int)), some (.ref L), some (.ref G), some (.int wd), some (.int (0 + (i : Int))), some (.ref D), some (.int (2 + r2)), v8, v9, Option.none, Option.none] ∧ Go a c H H' ∧ GrH L G as ll ps H' ∧ ∃ ds : List Int, H' D = some (.lst (ds.map V.int)) ∧ ds.Sublist ps ∧ ds.length ≤ 4 ∧ (1 ≤ ps.length → 1 ≤ ds.length), ?_, ?_⟩
        · refine ⟨fun n σ' H' => σ' = [some (.ref a), some (.int (m : Int)), some (.ref L), some (.ref G), some (.int wd), some (.int (0 + (i : Int))), some (.ref D), some (.int (2 + r2)), v8, v9, Option.none, Option.none] ∧ Go a c H H' ∧ GrH L G as ll ps H' ∧ ∃ ds : List Int, H' D = some (.lst (ds.map V.int)) ∧ ds.Sublist ps ∧ (1 ≤ ps.length → 1 ≤ ds.length) ∧ ds.length = n, ⟨ps.length, rfl, go4, gr4, ps, hD4, List.Sublist.refl _, id, rfl⟩, ?_⟩
          rintro n σ' H5 ⟨rfl, go5, gr5, ds, hD5, sub, one, rfl⟩
          refine ⟨_, rfl, D, _, rfl, .inl (SqL.of hD5), _, rfl, _, _, rfl, rfl, _, rfl, ?_⟩
          have ld := sub.length_le
          refine ite2 (fun q => ?_) (fun q => ?_)
          · have big : 2 < ds.length := by
              have := of_decide_eq_true q
              rw [List.length_map] at this
              omega
            refine ⟨fun σ' H' => ∃ m', m' < ds.length ∧ σ' = [some (.ref a), some (.int (m : Int)), some (.ref L), some (.ref G), some (.int wd), some (.int (0 + (i : Int))), some (.ref D), some (.int (2 + r2)), v8, v9, Option.none, Option.none] ∧ Go a c H H' ∧ GrH L G as ll ps H' ∧ ∃ ds : List Int, H' D = some (.lst (ds.map V.int)) ∧ ds.Sublist ps ∧ (1 ≤ ps.length → 1 ≤ ds.length) ∧ ds.length = m', fun σ' H' q => q, ?_⟩
            refine ⟨_, rfl, .inl ⟨rfl, _, SqL.of hD5⟩, _, rfl, _, rfl, D, _, rfl, .inl (SqL.of hD5), a, c, _, rfl, go5.1, by rw [List.length_map]; omega, by rw [List.length_map]; omega, fun r H6 h0 hlt g6 => ?_⟩
            rw [List.length_map] at hlt
            have lt : r.toNat < ds.length := by omega
            have hy : (ds.map V.int)[r.toNat]? = some (V.int ds[r.toNat]) := by rw [List.getElem?_map, List.getElem?_eq_getElem lt]; rfl
            have hD6 := g6.2 _ _ nDac.1 nDac.2 hD5
            refine ⟨D, _, r, r.toNat, _, rfl, rfl, hD6, by omega, by omega, seqI h0 (by rw [List.length_map]; exact hlt), hy, ?_⟩
            have el : (ds.eraseIdx r.toNat).length = ds.length - 1 := by rw [List.length_eraseIdx, if_pos lt]
            refine ⟨_, by omega, rfl, Go.put bag (go5.trans g6) nD1, (gr5.go nL nG go5.1 g6).put hD6 neLD neGD, ds.eraseIdx r.toNat, ?_, (List.eraseIdx_sublist _ _).trans sub, fun _ => by omega, el⟩
            rw [upd_same, erase_map]
          · have small : ds.length ≤ 4 := by
              have : ¬ (2 + r2) < ((ds.map V.int).length : Int) := fun z => q (decide_eq_true z)
              rw [List.length_map] at this
              omega
            exact ⟨rfl, go5, gr5, ds, hD5, sub, small, one⟩
        · rintro σ' H5 ⟨rfl, go5, gr5, ds, hD5, sub, small, one⟩
          refine ⟨_, rfl, D, ds, rfl, SqL.of hD5, by omega, fun ns p pm le np => ⟨p, _, rfl, .inl ⟨SqL.of upd_same, fun t nt => ?_⟩⟩⟩
          have e6 := (Ext.upd (o := .lst (ns.map V.int)) np).trans (Ext.upd (o := .tup (ns.map V.int)) nt)
          have ht6 : (upd (upd H5 p (.lst (ns.map V.int))) t (.tup (ns.map V.int))) t = some (.tup (ns.map V.int)) := upd_same
          generalize upd (upd H5 p (.lst (ns.map V.int))) t (.tup (ns.map V.int)) = H6 at *
          have go6 := go5.trans (Go.of_ext go5.1 e6)
          have gr6 := gr5.ext e6
          have ln := pm.length_eq
          have low : ∀ n ∈ ns, 0 ≤ n ∧ n ≤ 29 := fun n hn => bd n (sub.subset (pm.subset hn))
          have ris : ns.Pairwise (· < ·) := rise_of le (pm.nodup_iff.mpr (nd.sublist sub))
          refine ⟨fun σ' H' => ∃ (v6 v7 v9 : Option V) (t : Addr) (ns ps : List Int), σ' = [some (.ref a), some (.int (m : Int)), some (.ref L), some (.ref G), some (.int wd), some (.int (0 + (i : Int))), v6, v7, some (.ref t), v9, Option.none, Option.none] ∧ Go a c H H' ∧ GrH L G as ll ps H' ∧ ps.Nodup ∧ (∀ p ∈ ps, 0 ≤ p ∧ p ≤ 29) ∧ ps.length ≤ 7 ∧ 1 ≤ ps.length ∧ H' t = some (.tup (ns.map V.int)) ∧ CellL ns ∧ (as = [] → ns.length = 1), ?_, ?_⟩
          · refine ⟨fun b H' => Go a c H H' ∧ GrH L G as ll ps H' ∧ H' t = some (.tup (ns.map V.int)) ∧ (b = true → ps.length < 7) ∧ (b = false → 1 ≤ ps.length), ?_, ?_⟩
            · have last : ∀ H8, Go a c H H8 → GrH L G as ll ps H8 → H8 t = some (.tup (ns.map V.int)) → ∀ b : Bool, b = decide (V.int ((ps.map V.int).length : Int) = V.int 0) → Go a c H H8 ∧ GrH L G as ll ps H8 ∧ H8 t = some (.tup (ns.map V.int)) ∧ (b = true → ps.length < 7) ∧ (b = false → 1 ≤ ps.length) := by
                rintro H8 go8 gr8 ht8 b rfl
                refine ⟨go8, gr8, ht8, fun z => ?_, fun z => ?_⟩
                · have := of_decide_eq_true z
                  injection this with this
                  rw [List.length_map] at this
                  omega
                · have := of_decide_eq_false z
                  rw [List.length_map] at this
                  cases e : ps.length with
                  | zero => exact absurd (by rw [e]; rfl) this
                  | succ n => omega
              refine ⟨_, rfl, G, _, rfl, .inl (SqL.of gr6.g), _, rfl, _, _, rfl, rfl, _, rfl, ?_⟩
              refine ite2 (fun q => ?_) (fun q => ?_)
              · refine ⟨_, rfl, a, c, 3, rfl, go6.1, by decide, by decide, fun r3 H7 a3 b3 g7 => ⟨rfl, _, rfl, ?_⟩⟩
                have go7 := go6.trans g7
                have gr7 := gr6.go nL nG go6.1 g7
                have ht7 := Go.tup go6.1 g7 ht6
                refine ite2 (fun q2 => ?_) (fun q2 => ?_)
                · refine ⟨go7, gr7, ht7, fun _ => ?_, fun z => Bool.noConfusion z⟩
                  have := of_decide_eq_true q
                  rw [List.length_map] at this
                  omega
                · exact ⟨_, rfl, G, _, rfl, .inl (SqL.of gr7.g), rfl, _, rfl, last H7 go7 gr7 ht7 _ rfl⟩
              · exact iteF ⟨_, rfl, G, _, rfl, .inl (SqL.of gr6.g), rfl, _, rfl, last H6 go6 gr6 ht6 _ rfl⟩
            · rintro b H7 ⟨go7, gr7, ht7, hT, hF⟩
              cases b with
              | false =>
                have p1 := hF rfl
                refine iteF ⟨_, _, _, t, ns, ps, rfl, go7, gr7, nd, bd, l7, p1, ht7, ⟨by have := one p1; omega, by omega, low, ris⟩, fun e => ?_⟩
                rcases ini with ⟨_, e2, _⟩ | ⟨e2, _⟩
                · rw [e2] at p1
                  exact absurd p1 (by decide)
                · rw [e] at e2
                  exact absurd e2 (by decide)
              | true =>
                have p7 := hT rfl
                refine iteT ⟨30, rfl, by decide, by decide, fun D2 nD2 => lc_range (lo := 0) (n := 30) (fun j H'' => H'' = upd H7 D2 (.lst ((fr j ps).map V.int))) rfl ?_ ?_⟩
                · rintro j _ hj rfl
                  refine ⟨rfl, ?_⟩
                  refine ⟨_, rfl, _, rfl, G, _, rfl, .inl (SqL.of (Ext.upd nD2 _ _ gr7.g)), rfl, flat_ints _, _, rfl, ?_⟩
                  have fl := fr_le (i := j) (ps := ps)
                  refine ite2 (fun q => ?_) (fun q => ?_)
                  · have q : (!inV (V.int (0 + (j : Int))) (ps.map V.int)) = true := q
                    rw [inV_ints] at q
                    have h : ¬ (0 + (j : Int)) ∈ ps := fun z => by rw [decide_eq_true z] at q; cases q
                    refine ⟨_, rfl, _, upd_same, small1000 (by rw [List.length_map]; omega), ?_⟩
                    rw [upd_upd, fr_succ, if_neg h, List.map_append]
                    rfl
                  · have q : ¬ (!inV (V.int (0 + (j : Int))) (ps.map V.int)) = true := q
                    rw [inV_ints] at q
                    have h : (0 + (j : Int)) ∈ ps := Classical.byContradiction fun z => q (by rw [decide_eq_false z]; rfl)
                    rw [fr_succ, if_pos h, List.append_nil]
                · rintro _ rfl
                  have e8 : Ext H7 (upd H7 D2 (.lst ((fr 30 ps).map V.int))) := Ext.upd nD2
                  have hD2 : (upd H7 D2 (.lst ((fr 30 ps).map V.int))) D2 = some (.lst ((fr 30 ps).map V.int)) := upd_same
                  generalize upd H7 D2 (.lst ((fr 30 ps).map V.int)) = H8 at *
                  have go8 := go7.trans (Go.of_ext go7.1 e8)
                  have gr8 := gr7.ext e8
                  have nD2ac := go7.1.ne nD2
                  have lf := fr_many (ps := ps)
                  have lf2 := fr_le (i := 30) (ps := ps)
                  refine ⟨_, rfl, _, rfl, _, rfl, _, rfl, D2, _, rfl, .inl (SqL.of hD2), by show 3 ≤ sizeLine; decide, fun u nu => ?_⟩
                  have nuac := go8.1.ne nu
                  have e9 := Ext.upd (o := .lst [.int 1, .int 3, .int (((fr 30 ps).map V.int).length : Int)]) nu
                  have go9 := go8.trans (Go.of_ext go8.1 e9)
                  refine ⟨a, c, u, _, rfl, go9.1, nuac.1, nuac.2, upd_same, (fun z => nomatch z), (by show 3 ≤ 1000; decide), fun x H10 hx g10 => ?_⟩
                  have go10 := go9.trans g10
                  obtain ⟨z, rfl, z1, z2⟩ : ∃ z : Int, x = .int z ∧ 1 ≤ z ∧ z ≤ (fr 30 ps).length := by
                    rw [List.length_map] at hx
                    rcases List.mem_cons.mp hx with rfl | hx
                    · exact ⟨1, rfl, by decide, by omega⟩
                    rcases List.mem_cons.mp hx with rfl | hx
                    · exact ⟨3, rfl, by decide, by omega⟩
                    · exact ⟨_, List.mem_singleton.mp hx, by omega, Int.le_refl _⟩
                  refine ⟨a, c, z, rfl, go10.1, by omega, by omega, fun r H11 h0 hlt g11 => ?_⟩
                  have go11 := go10.trans g11
                  have gr11 := ((gr8.ext e9).go nL nG go9.1 g10).go nL nG go10.1 g11
                  have hD11 := g11.2 _ _ nD2ac.1 nD2ac.2 (g10.2 _ _ nD2ac.1 nD2ac.2 (e9 _ _ hD2))
                  have lt : r.toNat < (fr 30 ps).length := by omega
                  have hy : ((fr 30 ps).map V.int)[r.toNat]? = some (V.int (fr 30 ps)[r.toNat]) := by rw [List.getElem?_map, List.getElem?_eq_getElem lt]; rfl
                  obtain ⟨f0, f29, fno⟩ := fr_mem (List.getElem_mem lt)
                  generalize (fr 30 ps)[r.toNat] = y at *
                  refine ⟨D2, _, r, _, rfl, rfl, SqL.of hD11, at_of (j := r.toNat) (by omega) hy, by show 1 ≤ sizeLine; decide, fun t2 nt2 => ?_⟩
                  have e12 := Ext.upd (o := .tup [V.int y]) nt2
                  have ht12 : (upd H11 t2 (.tup [V.int y])) t2 = some (.tup [V.int y]) := upd_same
                  generalize upd H11 t2 (.tup [V.int y]) = H12 at *
                  have go12 := go11.trans (Go.of_ext go11.1 e12)
                  have gr12 := gr11.ext e12
                  refine ⟨_, rfl, .inl ⟨rfl, _, SqL.of gr12.g⟩, _, rfl, _, _, _, _, rfl, rfl, SqT.of ht12, rfl, G, _, _, rfl, rfl, gr12.g, small1000 (by rw [List.length_map]; omega), ?_⟩
                  have e1 : ps.map V.int ++ [V.int y] = (ps ++ [y]).map V.int := by rw [List.map_append]; rfl
                  rw [e1]
                  refine ⟨_, _, _, t2, [y], ps ++ [y], rfl, Go.put bag go12 nG1, ⟨by rw [upd_ne neLG]; exact gr12.l, upd_same, PT2.mono (fun b ys z => by rw [upd_ne (lst_ne gr12.g z)]; exact z) gr12.pt⟩, ?_, ?_, ?_, ?_, ?_, ⟨(by show 1 ≤ 1; decide), (by show 1 ≤ 4; decide), ?_, ?_⟩, fun _ => rfl⟩
                  · refine List.nodup_append.mpr ⟨nd, by simp, fun x hx z hz => ?_⟩
                    rw [List.mem_singleton.mp hz]
                    exact fun e => fno (e ▸ hx)
                  · intro p hp
                    rcases List.mem_append.mp hp with hp | hp
                    · exact bd p hp
                    · rw [List.mem_singleton.mp hp]
                      omega
                  · rw [List.length_append]
                    exact p7
                  · rw [List.length_append]
                    exact Nat.le_add_left _ _
                  · rw [upd_ne (lst_ne gr12.g ht12)]
                    exact ht12
                  · intro n hn
                    rw [List.mem_singleton.mp hn]
                    omega
                  · simp
          · rintro σ' H8 ⟨v6, v7, v9, t, ns, ps, rfl, go8, gr8, nd, bd, l7, one, ht8, cl, fst⟩
            refine ⟨_, rfl, _, rfl, notin_L ht8 gr8.l gr8.pt ⟨_, rfl, ?_⟩⟩
            have ln := PT2.len gr8.pt
            refine ite2 (fun q => ?_) (fun q => ?_)
            · have nin : ns ∉ ll := fun z => by rw [decide_eq_true z] at q; cases q
              refine ⟨_, rfl, t, ns, rfl, ht8, cl.1, cl.2.1, fun fl fs H9 e9 hf pf => ⟨fl, rfl, ⟨_, SqL.of hf⟩, fun D3 nD3 => ?_⟩⟩
              have hL9 := e9 _ _ gr8.l
              have lf : (facesL ns).length ≤ 4 := by
                unfold facesL
                split
                · decide
                · rw [List.length_map, List.length_range]; exact cl.2.1
              refine lc_list (K := K) (a := fl) (xs := fs.map V.ref) (fun j H' => Ext H9 H' ∧ H' D3 = some (.lst ((((facesL ns).take j).map fun f => decide (f ∈ ll)).map V.bl))) ⟨Ext.upd nD3, upd_same⟩ (fun j H' _ z => SqL.of (z.1 _ _ hf)) ?_ ?_
              · rintro j u H' hu ⟨ex, hD⟩
                rw [List.getElem?_map] at hu
                cases hj : fs[j]? with
                | none => rw [hj] at hu; cases hu
                | some g =>
                  rw [hj] at hu
                  cases hu
                  obtain ⟨fl', hfl, hg⟩ := pf.get hj
                  have ex0 := e9.trans ex
                  refine ⟨rfl, tyes_in ⟨_, rfl, _, rfl, in_L (ex _ _ hg) (ex _ _ hL9) (PT2.mono (fun _ _ z => ex0 _ _ z) gr8.pt) ⟨_, hD, small1000 (by rw [List.length_map, List.length_map, List.length_take]; omega), fun b' o eo => ?_, ?_⟩⟩⟩
                  · rw [upd_ne (ne_of_none eo nD3)]
                    exact ex _ _ eo
                  · rw [upd_same, List.take_succ, hfl, List.map_append, List.map_append]
                    rfl
              · rintro H' ⟨ex, hD⟩
                have lfs : (fs.map V.ref).length = (facesL ns).length := by rw [List.length_map, PT2.len pf]
                rw [lfs, List.take_of_length_le (Nat.le_refl _)] at hD
                have e10 := e9.trans ex
                have go10 := go8.trans (Go.of_ext go8.1 e10)
                have gr10 := gr8.ext e10
                cases ball : ((facesL ns).map fun f => decide (f ∈ ll)).all id with
                | false =>
                  refine ⟨D3, _, rfl, SqL.of hD, false, congrArg V.bl ball, ?_⟩
                  refine iteF ⟨⟨_, _, _, _, _, rfl⟩, go10, as, ll, ps, gr10, gd, lm, nd, bd, l7, .inr ⟨?_, one⟩⟩
                  cases e : as with
                  | nil =>
                    have h1 := fst e
                    unfold facesL at ball
                    rw [if_pos h1] at ball
                    cases ball
                  | cons x r => exact Nat.succ_le_succ (Nat.zero_le _)
                | true =>
                  refine ⟨D3, _, rfl, SqL.of hD, true, congrArg V.bl ball, ?_⟩
                  refine iteT ⟨_, rfl, .inl ⟨rfl, _, SqL.of gr10.l⟩, _, rfl, L, _, _, rfl, rfl, gr10.l, small1000 (by rw [List.length_map]; omega), ?_⟩
                  have e1 : as.map V.ref ++ [V.ref t] = (as ++ [t]).map V.ref := by rw [List.map_append]; rfl
                  rw [e1]
                  have ht10 := e10 _ _ ht8
                  refine ⟨⟨_, _, _, _, _, rfl⟩, Go.put bag go10 nL1, as ++ [t], ll ++ [ns], ps, ⟨upd_same, by rw [upd_ne neLG.symm]; exact gr10.g, PT2.mono (fun b ys z => by rw [upd_ne (lst_ne gr10.l z)]; exact z) (gr10.pt.snoc ht10)⟩, good_snoc.mpr ⟨gd, cl, nin, fun g hg => ?_⟩, by rw [List.length_append]; exact lm', nd, bd, l7, .inr ⟨by rw [List.length_append]; exact Nat.le_add_left _ _, one⟩⟩
                  exact of_decide_eq_true (List.all_eq_true.mp ball _ (List.mem_map_of_mem hg))
            · have isin : ns ∈ ll := Classical.byContradiction fun z => q (by rw [decide_eq_false z]; rfl)
              refine iteF ⟨⟨_, _, _, _, _, rfl⟩, go8, as, ll, ps, gr8, gd, lm, nd, bd, l7, .inr ⟨?_, one⟩⟩
              have := List.length_pos_of_mem isin
              omega
      · exact ⟨⟨_, _, _, _, _, rfl⟩, go2, as, ll, ps, gr2, gd, lm, nd, bd, l7, by
          rcases ini with ⟨_, _, e⟩ | ini
          · exfalso
            subst e
            exact q (decide_eq_true (by show (0 : Int) < m; omega))
          · exact .inr ini⟩
    · rintro σ' H' ⟨⟨v5, v6, v7, v8, v9, rfl⟩, go2, as, ll, ps, gr2, gd, lm, nd, bd, l7, ini⟩
      refine ⟨_, rfl, ?_⟩
      refine k L as ll H' go2 nL.1 nL.2 gr2.l gr2.pt gd ?_ (by omega)
      rcases ini with ⟨e, _⟩ | ini
      · exfalso
        omega
      · exact ini.1
end
end T39

set_option Elab.async false
set_option linter.all false
set_option maxRecDepth 100000
set_option maxHeartbeats 400000
set_option pp.maxSteps 60
/-! t[::-1] of a short tuple. -/
namespace T39
open PySem L2 PyProof.Rows
section
variable {prog : Program} {w : World} {A : Around} {E : Value → Shared → Prop} {s : Shared}
theorem back_parts {n : Nat} {sl : Addr} {vs : Value} {Q : Int × Int × Nat → Shared → Prop} (h1 : 1 ≤ n) (h4 : n ≤ 4) (hs : s.heap.IsSliceOf sl .none .none vs) (ps : IsPart vs (some (-1))) (h : Q ((n : Int) - 1, -1, n) s) :
    wpAny (model prog w) A (Builtin.Slice.sliceApplied (.ref sl) (pure (n : Int))) Q E s := by
  rcases hs with ⟨ob, there, _, dt⟩
  unfold Builtin.Slice.sliceApplied Builtin.Slice.sliceFields
  refine wpAny_bind (wpAny_bind (wpAny_field there dt (x := .none) rfl (wpAny_bind (wpAny_field there dt (x := .none) rfl (wpAny_bind (wpAny_field there dt (x := vs) rfl (wpAny_pure ?_)))))))
  refine wpAny_bind (HT.slicePart_ ps ?_)
  show wpAny _ _ (if ((-1 : Int) == 0) = true then _ else _) _ _ s
  rw [if_neg (by decide)]
  have four : n = 1 ∨ n = 2 ∨ n = 3 ∨ n = 4 := by omega
  rcases four with rfl | rfl | rfl | rfl <;> exact wpAny_bind (HT.slicePart_ .none (wpAny_bind (HT.slicePart_ .none (wpAny_bind (wpAny_pure (wpAny_pure h))))))
theorem pick_some (us : List Value) (h1 : 1 ≤ us.length) (h4 : us.length ≤ 4) : ((List.range us.toArray.size).filterMap fun (m : Nat) => us.toArray[(((us.toArray.size : Nat) : Int) - 1 + (m : Int) * (-1)).toNat]?).toArray = us.reverse.toArray := by
  cases us with
  | nil => exact absurd h1 (by simp)
  | cons x us => cases us with
    | nil => rfl
    | cons y us => cases us with
      | nil => rfl
      | cons z us => cases us with
        | nil => rfl
        | cons u us => cases us with
          | nil => rfl
          | cons v us => simp at h4
theorem back_some {t sl : Addr} {us : List Value} {vs : Value} {Q : Value → Shared → Prop} (h1 : 1 ≤ us.length) (h4 : us.length ≤ 4) (ht : IsTup s.heap t us.toArray) (hs : s.heap.IsSliceOf sl .none .none vs) (ps : IsPart vs (some (-1)))
    (h : Q (.ref s.heap.objs.size) { s with heap := s.heap.push { cls := .type "tuple", data := .seq us.reverse.toArray } }) : wpAny (model prog w) A (getItem (.ref t) (.ref sl)) Q E s := by
  have isS : s.TypeIs (.ref sl) "slice" := by
    rcases hs with ⟨ob, there, hc, _⟩
    exact ⟨ob, there, hc⟩
  have fit : sizeOk (.seq us.reverse.toArray) := by
    have e : us.reverse.toArray.size ≤ sizeLine := by
      rw [List.size_toArray, List.length_reverse, sizeLine_eq]
      omega
    exact e
  unfold getItem
  try with_reducible refine wpAny_holding ?_
  first | refine wpAny_bind (wpAny_pure ?_) | skip
  refine wpAny_bind (wpAny_sequenceKey ht.typeIs (by decide) (wpAny_bind (wpAny_callSpecial?_slot (name := Str.ofString "__getitem__") ht.typeIs slot_tuple_getitem (wpAny_call_entry slot_tuple_getitem ht.typeIs entry_tuple_getitem ?_ (args_tuple_getitem _ _)))))
  show wpAny _ _ (Builtin.Tuple.tupleItemsOf (.ref t) >>= _) _ _ s
  refine wpAny_bind (tupleItemsOf_ ht (wpAny_bind (wpAny_typeOf isS ?_)))
  rw [if_pos (by decide)]
  have pick := pick_some us h1 h4
  refine wpAny_bind (back_parts h1 h4 hs ps ?_)
  show wpAny _ _ (if (((us.length : Nat) : Int) - 1 == 0 && (-1 : Int) == 1 && us.length == us.toArray.size) = true then _ else _) _ _ s
  rw [if_neg (by simp)]
  rw [pick]
  refine wpAny_bind (m := Builtin.Tuple.tupleExact _) ?_
  refine wpAny_newObj_type ?_ fit
  exact wpAny_pure ⟨_, rfl, wpAny_pure h⟩
end
theorem vals_rev : ∀ {xs : List V} {us : List Value}, Vals xs us → Vals xs.reverse us.reverse
  | _, _, .nil => .nil
  | _, _, .cons a r => by
    rw [List.reverse_cons, List.reverse_cons]
    exact Paired.snoc (vals_rev r) a
/-- t[::-1] -/
def tBack (te : TE) : TE := fun σ H Q => te σ H fun v H1 => ∃ (a : Addr) (xs : List V), v = .ref a ∧ H1 a = some (.tup xs) ∧ 1 ≤ xs.length ∧ xs.length ≤ 4 ∧ ∀ p, H1 p = none → Q (.ref p) (upd H1 p (.tup xs.reverse))
theorem pe_back {X : Cx} {e : Expr} {te : TE} {k : Nat} {p1 p2 p3 pos : Pos} (he : PE X e te) : PE X (.Subscript e (.Slice none none (some (.UnaryOp .USub (.Constant (.int 1) k p1) p2)) p3) pos) (tBack te) := by
  constructor
  intro pins s σ H Q I h
  have minus : PO X (some (.UnaryOp .USub (.Constant (.int 1) k p1) p2)) (tPart (tUn (rU fun i => .int (-i)) (tC (.int 1)))) := po_some (pe_un un_neg pe_int)
  refine Subscript_ (thn (he.run pins s σ H _ I h) ?_)
  rintro v s1 ⟨z, H1, I1, rz, a, xs, rfl, ha, h1, h4, q⟩
  obtain rfl : v = Value.ref a := rz
  refine wpAny_Slice (thn (po_none.run pins s1 σ H1 (fun o H2 => o = none ∧ H2 = H1) I1 ⟨rfl, rfl⟩) ?_)
  rintro vl s2 ⟨l, H2, I2, pl, rfl, rfl⟩
  refine thn (po_none.run pins s2 σ H2 (fun o H3 => o = none ∧ H3 = H2) I2 ⟨rfl, rfl⟩) ?_
  rintro vu s3 ⟨u, H3, I3, pu, rfl, rfl⟩
  refine thn (minus.run pins s3 σ H3 (fun o H4 => o = some (-1) ∧ H4 = H3) I3 ⟨1, rfl, -1, rfl, rfl, rfl⟩) ?_
  rintro vs s4 ⟨o, H4, I4, ps, rfl, rfl⟩
  have J : Inv X pins σ H4 { s4 with heap := s4.heap.push { cls := .type "slice", data := .fields #[vl, vu, vs] } } := I4.kept (t' := s4.toks) fun b ob z => Heap.get?_push_of_some _ z
  obtain ⟨its, r, ht, _⟩ := J.tuple (SqT.of ha)
  refine tail_any (ops := [.ref a, .ref s4.heap.objs.size]) ht.typeIs slot_tuple_getitem.lookup ?_ (by with_unfolding_all rfl)
  cases pl
  cases pu
  have lr := r.length
  refine back_some (us := its) (by omega) (by omega) ht (Heap.IsSliceOf.new _ .none .none vs) ps ?_
  refine ⟨.ref _, _, J.laid (t' := s4.toks) (o := .tup xs.reverse) (fun b ob z => Heap.get?_push_of_some _ z) (Nat.le_refl _) ?_, rfl, q _ (J.hok.fresh (Nat.le_refl _))⟩
  exact ⟨by rw [List.length_reverse, sizeLine_eq]; omega, its.reverse, vals_rev r, ⟨_, Heap.get?_push_size _ rfl, rfl, _, rfl⟩⟩
end T39

set_option Elab.async false
set_option linter.all false
set_option maxRecDepth 100000
set_option maxHeartbeats 1000000
set_option pp.maxSteps 60
/-! A tower spoilt. -/
namespace T39
open PySem L2
abbrev sSpoilt : Stmt := top 25
inductive OdF (K : PySem.W.Frag) (a c : Addr) (H : Hp) : V → Prop
  | non : OdF K a c H .non
  | int (i : Int) : OdF K a c H (.int i)
  | str (z : Str) : OdF K a c H (.str z)
  | tup {p : Addr} {xs : List V} : H p = some (.tup xs) → xs.length ≤ 100 → (∀ y ∈ xs, ∀ S : Hp, Th K S 0 y) → OdF K a c H (.ref p)
  | lst {p : Addr} {xs : List V} : H p = some (.lst xs) → p ≠ a → p ≠ c → OdF K a c H (.ref p)
  | dct {p : Addr} : H p = some (.dK []) → OdF K a c H (.ref p)
  | box {p c1 : Addr} {ns : List Int} : H p = some (.tup [.ref c1]) → H c1 = some (.tup (ns.map V.int)) → OdF K a c H (.ref p)
theorem OdF.ext {K : PySem.W.Frag} {a c : Addr} {H H' : Hp} {x : V} (e : Ext H H') (h : OdF K a c H x) : OdF K a c H' x := by
  cases h with
  | non => exact .non
  | int i => exact .int i
  | str z => exact .str z
  | tup h l f => exact .tup (e _ _ h) l f
  | lst h n m => exact .lst (e _ _ h) n m
  | dct h => exact .dct (e _ _ h)
  | box h g => exact .box (e _ _ h) (e _ _ g)
theorem OdF.go {K : PySem.W.Frag} {a c : Addr} {H H' : Hp} {x : V} (bag : BagAt H a c) (g : Go a c H H') (h : OdF K a c H x) : OdF K a c H' x := by
  cases h with
  | non => exact .non
  | int i => exact .int i
  | str z => exact .str z
  | tup h l f => exact .tup (Go.tup bag g h) l f
  | lst h n m => exact .lst (g.2 _ _ n m h) n m
  | dct h =>
    obtain ⟨n, m⟩ := bag_no bag h fun _ z => nomatch z
    exact .dct (g.2 _ _ n m h)
  | box h k => exact .box (Go.tup bag g h) (Go.tup bag g k)
/-- a part of what is spoilt -/
def Part (K : PySem.W.Frag) (H : Hp) (x : V) : Prop := Th K H 1 x ∧ Sm H x
theorem sm_flat {H : Hp} {x : V} (h : ∀ p, x ≠ .ref p) : Sm H x := fun p xs e => absurd e (h p)
theorem OdF.part {K : PySem.W.Frag} {a c : Addr} {H : Hp} {x : V} (h : OdF K a c H x) : Part K H x := by
  cases h with
  | non => exact ⟨Th.non, sm_flat fun _ z => nomatch z⟩
  | int i => exact ⟨Th.int i, sm_flat fun _ z => nomatch z⟩
  | str z => exact ⟨Th.str z, sm_flat fun _ z => nomatch z⟩
  | tup h l f =>
    refine ⟨Th.tup h fun y hy => f y hy H, fun p xs e hp => ?_⟩
    cases e
    rw [h] at hp
    cases hp
    omega
  | lst h n m =>
    refine ⟨Th.lst h, fun p xs e hp => ?_⟩
    cases e
    rw [h] at hp
    cases hp
  | dct h =>
    refine ⟨Th.dct h, fun p xs e hp => ?_⟩
    cases e
    rw [h] at hp
    cases hp
  | box h k =>
    refine ⟨Th.tup h fun y hy => by rw [List.mem_singleton.mp hy]; exact Th.tup0 k, fun p xs e hp => ?_⟩
    cases e
    rw [h] at hp
    cases hp
    show 1 ≤ 1000
    decide
theorem part_cell {K : PySem.W.Frag} {H : Hp} {as : List Addr} {ll : List (List Int)} (pt : PT2 H as ll) (gd : GoodT ll) : ∀ y ∈ as.map V.ref, Part K H y := by
  intro y hy
  refine ⟨PT2.th (n := 0) pt y hy, fun p xs e hp => ?_⟩
  subst e
  obtain ⟨b, hb, e⟩ := List.mem_map.mp hy
  cases e
  obtain ⟨i, hi⟩ := List.mem_iff_getElem?.mp hb
  obtain ⟨l, hl, h⟩ := pt.get hi
  rw [h] at hp
  cases hp
  rw [List.length_map]
  exact good_short gd l (List.mem_of_getElem? hl)
theorem Part.keep {K : PySem.W.Frag} {H H' : Hp} {x : V} (e : Ext H H') (h : Part K H x) : Part K H' x := ⟨h.1.ext e, h.2.ext e h.1⟩
def spSpoilt (K : PySem.W.Frag) : Sp := fun vs H Q _ => ∃ (a c l : Addr) (as : List Addr) (ll : List (List Int)), vs = [.ref a, .ref l] ∧ BagAt H a c ∧ l ≠ a ∧ l ≠ c ∧ H l = some (.lst (as.map V.ref)) ∧ PT2 H as ll ∧ GoodT ll ∧ 1 ≤ as.length ∧ as.length ≤ 40 ∧
  ∀ (r : Addr) (xs : List V) (H' : Hp), Go a c H H' → H' r = some (.lst xs) → xs.length ≤ 100 → (∀ y ∈ xs, Part K H' y) → Q (.ref r) H'
section
variable {P : Program} {w : World} {K : PySem.W.Frag} {mg : Str → Option Value} {base : Heap}
abbrev spoiltN : List Str := ["_law_bag_here", "_law_cells", "_law_at", "_law_to", "_law_cell", "_law_odd", "_law_way", "_law_found"]
theorem scSpoilt : FnScope spoiltN ["_law_bag_here", "_law_cells"] (defScope sSpoilt) := ⟨rfl, rfl, rfl, by decide +kernel, rfl, by decide +kernel, by decide +kernel⟩
theorem ok_spoilt {f : Addr} {fd : FuncData} (F : L2.Fun K "_law_spoilt" "_law_spoilt" sSpoilt f fd) (T : Gb mg) (cP : Cal P w K mg base 1 "_law_pick" spPick []) (cS : Cal P w K mg base 2 "_law_some" spSome []) : FnOk P w K mg base CX0 3 f fd ["_law_bag_here", "_law_cells"] (spSpoilt K) := by
  refine F.ok scSpoilt (fun vs H Q E h => ?_) (fun cdv A outer s H vs Q E hr h => ?_)
  · obtain ⟨a, c, l, as, ll, rfl, _⟩ := h
    rfl
  · obtain ⟨a, c, l, as, ll, rfl, bag, na, nc, hl, pt, gd, l1, l40, k⟩ := h
    refine ⟨_, pss_cons (ps_set (i := 2) scSpoilt.nd rfl (Or.inl rfl) (C8.pe_c cP hr (by decide) (by rfl) (pa_cons (pv 0) (pa_cons (pe_callB (call_max2 rfl) (by rfl) T.max (by decide +kernel) (pa_cons pe_int (pa_cons (pe_callB call_len_seq (by rfl) T.len PySem.boot_len (pa_cons (pv 1) pa_nil)) pa_nil))) pa_nil))))
      (pss_cons (ps_set (i := 3) scSpoilt.nd rfl (Or.inl rfl) (C8.pe_c cP hr (by decide) (by rfl) (pa_cons (pv 0) (pa_cons (pe_callB (call_max2 rfl) (by rfl) T.max (by decide +kernel) (pa_cons pe_int (pa_cons (pe_callB call_len_seq (by rfl) T.len PySem.boot_len (pa_cons (pv 1) pa_nil)) pa_nil))) pa_nil))))
      (pss_cons (ps_set (i := 4) scSpoilt.nd rfl (Or.inl rfl) (pe_ix ix_list (pv 1) (pv 2) (fun _ _ => rfl)))
      (pss_cons (ps_set (i := 5) scSpoilt.nd rfl (Or.inl rfl) (pe_lst (pa_cons (pe_back (pv 4)) (pa_cons (pe_op op_catA (pv 4) (pe_slice sl_tupA (pv 4) (po_some (pe_un un_neg pe_int)) po_none)) (pa_cons (pe_op op_catA (pv 4) (pe_tup (pa_cons pe_int pa_nil)))
          (pa_cons (pe_op op_catA (pe_tup (pa_cons (pe_un un_neg pe_int) pa_nil)) (pv 4)) (pa_cons (pe_op op_catA (pe_tup (pa_cons pe_bl pa_nil)) (pe_slice sl_tupA (pv 4) (po_some pe_int) po_none)) (pa_cons (pe_callTy call_list_of (by rfl) T.list (by decide +kernel) (pa_cons (pv 4) pa_nil)) pa_nil))))))))
      (pss_cons (ps_set (i := 5) scSpoilt.nd rfl (Or.inl rfl) (pe_op op_cat (pv 5) (pe_lst (pa_cons (pe_tup pa_nil) (pa_cons pe_non (pa_cons pe_int (pa_cons pe_str (pa_cons (pe_tup (pa_cons pe_int (pa_cons pe_int (pa_cons pe_int (pa_cons pe_int (pa_cons pe_int pa_nil))))))
          (pa_cons (pe_tup (pa_cons pe_str pa_nil)) (pa_cons (pe_tup (pa_cons pe_non pa_nil)) (pa_cons (pe_tup (pa_cons (pe_op op_pow pe_int pe_int) pa_nil)) (pa_cons pe_dnewK (pa_cons (pe_op op_catA (pv 4) (pe_tup (pa_cons pe_int pa_nil))) (pa_cons (pe_tup (pa_cons (pv 4) pa_nil)) pa_nil))))))))))))))
      (pss_cons (ps_set (i := 6) scSpoilt.nd rfl (Or.inl rfl) (C8.pe_c cP hr (by decide) (by rfl) (pa_cons (pv 0) (pa_cons pe_int pa_nil))))
      (pss_cons (ps_if (pt_cmpR op_eq (pv 6) pe_int (nomark _)) (pss_one (ps_ret (pe_op op_cat (pe_slice sl_list (pv 1) po_none (po_some (pv 2))) (pe_slice sl_list (pv 1) (po_some (pe_op op_add (pv 2) pe_int)) po_none)))) pss_nil)
      (pss_cons (ps_if (pt_cmpR op_eq (pv 6) pe_int (nomark _)) (pss_one (ps_ret (pe_op op_cat (pe_op op_cat (pe_slice sl_list (pv 1) po_none (po_some (pv 2))) (pe_lst (pa_cons (pv 4) pa_nil))) (pe_slice sl_list (pv 1) (po_some (pv 2)) po_none)))) pss_nil)
      (pss_cons (ps_if (pt_cmpR op_lt (pv 6) pe_int (nomark _)) (pss_cons (ps_set (i := 7) scSpoilt.nd rfl (Or.inl rfl) (pe_callTy call_list_of (by rfl) T.list (by decide +kernel) (pa_cons (pv 1) pa_nil)))
          (pss_cons (ps_asg (pe_tup (pa_cons (pe_ix ix_list (pv 1) (pv 3) (fun _ _ => rfl)) (pa_cons (pe_ix ix_list (pv 1) (pv 2) (fun _ _ => rfl)) pa_nil))) (pg_tup rfl (pgs_cons (pg_sub (pv 7) (pv 2) set_list) (pgs_cons (pg_sub (pv 7) (pv 3) set_list) pgs_nil))))
          (pss_one (ps_ret (pv 7))))) pss_nil)
      (pss_one (ps_ret (pe_op op_cat (pe_op op_cat (pe_slice sl_list (pv 1) po_none (po_some (pv 2))) (pe_lst (pa_cons (C8.pe_c cS hr (by decide) (by rfl) (pa_cons (pv 0) (pa_cons (pv 5) pa_nil))) pa_nil)))
        (pe_slice sl_list (pv 1) (po_some (pe_op op_add (pv 2) (pe_callTy call_int1 (by rfl) T.int (by decide +kernel) (pa_cons (pe_cmpR op_lt (pv 6) pe_int (nomark _)) pa_nil)))) po_none)))))))))))), ?_⟩
    have emax : ∀ n : Int, 1 ≤ n → (if n > 1 then n else 1) = n := fun n h => by split <;> omega
    have ln : (((as.map V.ref).length : Nat) : Int) = (as.length : Int) := by rw [List.length_map]
    refine ⟨_, rfl, _, rfl, l, _, rfl, .inl (SqL.of hl), _, _, rfl, a, c, _, rfl, bag, ?_, ?_, fun r1 H1 a1 b1 g1 => ?_⟩
    · rw [emax _ (by omega)]
      omega
    · rw [emax _ (by omega)]
      omega
    rw [emax _ (by omega)] at b1
    have hl1 := g1.2 _ _ na nc hl
    refine ⟨_, rfl, _, rfl, l, _, rfl, .inl (SqL.of hl1), _, _, rfl, a, c, _, rfl, g1.1, ?_, ?_, fun r2 H2 a2 b2 g2 => ?_⟩
    · rw [emax _ (by omega)]
      omega
    · rw [emax _ (by omega)]
      omega
    rw [emax _ (by omega)] at b2
    have go2 := g1.trans g2
    have hl2 := g2.2 _ _ na nc hl1
    have pt2 : PT2 H2 as ll := PT2.mono (fun _ _ z => Go.tup bag go2 z) pt
    have v1 : as[r1.toNat]? = some as[r1.toNat] := List.getElem?_eq_getElem (by omega)
    generalize as[r1.toNat] = c1 at *
    have w1 : (as.map V.ref)[r1.toNat]? = some (.ref c1) := by rw [List.getElem?_map, v1]; rfl
    obtain ⟨ns, hns, hc⟩ := pt2.get v1
    have cl := good_cells gd ns (List.mem_of_getElem? hns)
    refine ⟨_, rfl, _, rfl, l, _, r1, _, rfl, rfl, SqL.of hl2, at_of (j := r1.toNat) (by omega) w1, ?_⟩
    have fl : ∀ y ∈ ns.map V.int, ∀ S : Hp, Th K S 0 y := fun y hy S => by
      obtain ⟨i, _, rfl⟩ := List.mem_map.mp hy
      exact Th.int i
    have cl4 : (ns.map V.int).length ≤ 4 := by rw [List.length_map]; exact cl.2.1
    have cl1 : 1 ≤ (ns.map V.int).length := by rw [List.length_map]; exact cl.1
    generalize hxs : ns.map V.int = xs at *
    -- the odd ones of the first list
    refine ⟨_, rfl, c1, xs, rfl, hc, cl1, cl4, fun p1 n1 => ?_⟩
    have x3 := Ext.upd (o := .tup xs.reverse) n1
    have q3 : (upd H2 p1 (.tup xs.reverse)) p1 = some (.tup xs.reverse) := upd_same
    generalize upd H2 p1 (.tup xs.reverse) = H3 at *
    have o1 : OdF K a c H3 (.ref p1) := .tup q3 (by rw [List.length_reverse]; omega) fun y hy => fl y (List.mem_reverse.mp hy)
    have hc3 := x3 _ _ hc
    refine ⟨_, rfl, _, rfl, 1, rfl, -1, rfl, ?_⟩
    dsimp only [tNoPart]
    refine sl_any (K := K) (lo := some (-1)) (hi := none) hc3 fun p4 H4 x4 q4 => ?_
    have lc4 := cutV_length xs (some (-1)) none
    refine cat_any (x4 _ _ hc3) q4 (by omega) fun p2 H5 x5 q5 => ?_
    have o2 : OdF K a c H5 (.ref p2) := .tup q5 (by rw [List.length_append]; omega) fun y hy => (List.mem_append.mp hy).elim (fl y) fun z => fl y (cut_mem z)
    have hc5 := x5 _ _ (x4 _ _ hc3)
    refine ⟨_, rfl, by show 1 ≤ sizeLine; decide, fun p6 n6 => ?_⟩
    have one : ∀ (i : Int) (y : V), y ∈ [V.int i] → ∀ S : Hp, Th K S 0 y := fun i y hy S => by rw [List.mem_singleton.mp hy]; exact Th.int i
    refine cat_any (Ext.upd n6 _ _ hc5) upd_same (by rw [List.length_singleton]; omega) fun p3 H7 x7 q7 => ?_
    have e7 := (Ext.upd (o := .tup [.int 30]) n6).trans x7
    have o3 : OdF K a c H7 (.ref p3) := .tup q7 (by rw [List.length_append, List.length_singleton]; omega) fun y hy => (List.mem_append.mp hy).elim (fl y) (one _ y)
    have hc7 := e7 _ _ hc5
    refine ⟨1, rfl, by show 1 ≤ sizeLine; decide, fun p8 n8 => ⟨_, rfl, ?_⟩⟩
    refine cat_any upd_same (Ext.upd n8 _ _ hc7) (by rw [List.length_singleton]; omega) fun p5 H9 x9 q9 => ?_
    have e9 := (Ext.upd (o := .tup [.int (-1)]) n8).trans x9
    have o4 : OdF K a c H9 (.ref p5) := .tup q9 (by rw [List.length_append, List.length_singleton]; omega) fun y hy => (List.mem_append.mp hy).elim (one _ y) (fl y)
    have hc9 := e9 _ _ hc7
    refine ⟨by show 1 ≤ sizeLine; decide, fun p10 n10 => ⟨_, rfl, 1, rfl, ?_⟩⟩
    dsimp only [tNoPart]
    refine sl_any (K := K) (lo := some 1) (hi := none) (Ext.upd n10 _ _ hc9) fun p11 H11 x11 q11 => ?_
    have lc11 := cutV_length xs (some 1) none
    refine cat_any (x11 _ _ upd_same) q11 (by rw [List.length_singleton]; omega) fun p12 H12 x12 q12 => ?_
    have e12 := (Ext.upd (o := .tup [.bl true]) n10).trans (x11.trans x12)
    have o5 : OdF K a c H12 (.ref p12) := .tup q12 (by rw [List.length_append, List.length_singleton]; omega) fun y hy => (List.mem_append.mp hy).elim (fun z S => by rw [List.mem_singleton.mp z]; exact Th.bl true) fun z => fl y (cut_mem z)
    have hc12 := e12 _ _ hc9
    have eA : Ext H2 H12 := x3.trans (x4.trans (x5.trans (e7.trans (e9.trans e12))))
    have bag12 := (Go.of_ext go2.1 eA).1
    refine ⟨_, rfl, c1, xs, rfl, .inr (SqT.of hc12), fun p13 n13 => ⟨by show 6 ≤ sizeLine; decide, fun u nu => ?_⟩⟩
    obtain ⟨ne13, nf13⟩ := bag12.ne n13
    have x13 := Ext.upd (o := .lst xs) n13
    have q13 : (upd H12 p13 (.lst xs)) p13 = some (.lst xs) := upd_same
    generalize upd H12 p13 (.lst xs) = H13 at *
    have o6 : OdF K a c H13 (.ref p13) := .lst q13 ne13 nf13
    have six : ∀ y ∈ [V.ref p1, .ref p2, .ref p3, .ref p5, .ref p12, .ref p13], OdF K a c H13 y := by
      intro y hy
      rcases List.mem_cons.mp hy with rfl | hy
      · exact o1.ext (x4.trans (x5.trans (e7.trans (e9.trans (e12.trans x13)))))
      rcases List.mem_cons.mp hy with rfl | hy
      · exact o2.ext (e7.trans (e9.trans (e12.trans x13)))
      rcases List.mem_cons.mp hy with rfl | hy
      · exact o3.ext (e9.trans (e12.trans x13))
      rcases List.mem_cons.mp hy with rfl | hy
      · exact o4.ext (e12.trans x13)
      rcases List.mem_cons.mp hy with rfl | hy
      · exact o5.ext x13
      · rw [List.mem_singleton.mp hy]
        exact o6
    have eB : Ext H2 H13 := eA.trans x13
    have hc13 := x13 _ _ hc12
    clear o1 o2 o3 o4 o5 o6
    clear x3 q3 n1 x4 q4 x5 q5 e7 x7 q7 n6 e9 x9 q9 n8 e12 x12 q12 x11 q11 n10 eA x13 q13 n13 bag12 hc3 hc5 hc7 hc9 hc12
    have x14 := Ext.upd (o := .lst [V.ref p1, .ref p2, .ref p3, .ref p5, .ref p12, .ref p13]) nu
    have hu : (upd H13 u (.lst [V.ref p1, .ref p2, .ref p3, .ref p5, .ref p12, .ref p13])) u = some (.lst [V.ref p1, .ref p2, .ref p3, .ref p5, .ref p12, .ref p13]) := upd_same
    generalize hO : [V.ref p1, .ref p2, .ref p3, .ref p5, .ref p12, .ref p13] = os at *
    have lo : os.length = 6 := by rw [← hO]; rfl
    generalize upd H13 u (.lst os) = H14 at *
    have hc14 := x14 _ _ hc13
    refine ⟨_, rfl, Nat.zero_le _, fun t1 m1 => ⟨by show 5 ≤ sizeLine; decide, fun t2 m2 => ⟨by show 1 ≤ sizeLine; decide, fun t3 m3 => ⟨by show 1 ≤ sizeLine; decide, fun t4 m4 => ⟨_, _, rfl, rfl, ⟨by decide, by decide, by decide⟩, by show 1 ≤ sizeLine; decide, fun t5 m5 t6 m6 => ?_⟩⟩⟩⟩⟩
    have y1 := Ext.upd (o := .tup []) m1
    have z1 : (upd H14 t1 (.tup [])) t1 = some (.tup []) := upd_same
    generalize upd H14 t1 (.tup []) = G1 at *
    have y2 := Ext.upd (o := .tup [.int 0, .int 1, .int 2, .int 3, .int 4]) m2
    have z2 : (upd G1 t2 (.tup [.int 0, .int 1, .int 2, .int 3, .int 4])) t2 = some (.tup [.int 0, .int 1, .int 2, .int 3, .int 4]) := upd_same
    generalize upd G1 t2 (.tup [.int 0, .int 1, .int 2, .int 3, .int 4]) = G2 at *
    have y3 := Ext.upd (o := .tup [.str "0"]) m3
    have z3 : (upd G2 t3 (.tup [.str "0"])) t3 = some (.tup [.str "0"]) := upd_same
    generalize upd G2 t3 (.tup [.str "0"]) = G3 at *
    have y4 := Ext.upd (o := .tup [.non]) m4
    have z4 : (upd G3 t4 (.tup [.non])) t4 = some (.tup [.non]) := upd_same
    generalize upd G3 t4 (.tup [.non]) = G4 at *
    have y5 := Ext.upd (o := .tup [(fun i j : Int => V.int (i ^ j.toNat)) 10 11]) m5
    have z5 : (upd G4 t5 (.tup [(fun i j : Int => V.int (i ^ j.toNat)) 10 11])) t5 = some (.tup [.int (10 ^ (11 : Int).toNat)]) := upd_same
    generalize upd G4 t5 (.tup [(fun i j : Int => V.int (i ^ j.toNat)) 10 11]) = G5 at *
    have y6 := Ext.upd (o := .dK []) m6
    have z6 : (upd G5 t6 (.dK [])) t6 = some (.dK []) := upd_same
    generalize upd G5 t6 (.dK []) = G6 at *
    have d1 : OdF K a c G1 (.ref t1) := .tup z1 (Nat.zero_le _) fun y hy => by cases hy
    have d2 : OdF K a c G2 (.ref t2) := .tup z2 (by show 5 ≤ 100; decide) fun y hy S => by
      rcases List.mem_cons.mp hy with rfl | hy
      · exact Th.int _
      rcases List.mem_cons.mp hy with rfl | hy
      · exact Th.int _
      rcases List.mem_cons.mp hy with rfl | hy
      · exact Th.int _
      rcases List.mem_cons.mp hy with rfl | hy
      · exact Th.int _
      · rw [List.mem_singleton.mp hy]; exact Th.int _
    have d3 : OdF K a c G3 (.ref t3) := .tup z3 (by show 1 ≤ 100; decide) fun y hy S => by rw [List.mem_singleton.mp hy]; exact Th.str _
    have d4 : OdF K a c G4 (.ref t4) := .tup z4 (by show 1 ≤ 100; decide) fun y hy S => by rw [List.mem_singleton.mp hy]; exact Th.non
    have d5 : OdF K a c G5 (.ref t5) := .tup z5 (by show 1 ≤ 100; decide) (one _)
    have d6 : OdF K a c G6 (.ref t6) := .dct z6
    have hcG := y6 _ _ (y5 _ _ (y4 _ _ (y3 _ _ (y2 _ _ (y1 _ _ hc14)))))
    refine ⟨_, rfl, by show 1 ≤ sizeLine; decide, fun p6 n6 => ?_⟩
    refine cat_any (Ext.upd n6 _ _ hcG) upd_same (by rw [List.length_singleton]; omega) fun t7 G7 x7 q7 => ?_
    have y7 := (Ext.upd (o := .tup [.int 29]) n6).trans x7
    have d7 : OdF K a c G7 (.ref t7) := .tup q7 (by rw [List.length_append, List.length_singleton]; omega) fun y hy => (List.mem_append.mp hy).elim (fl y) (one _ y)
    have hcG7 := y7 _ _ hcG
    refine ⟨_, rfl, by show 1 ≤ sizeLine; decide, fun t8 m8 => ⟨by show 11 ≤ sizeLine; decide, fun u2 nu2 => ?_⟩⟩
    have y8 := Ext.upd (o := .tup [.ref c1]) m8
    have z8 : (upd G7 t8 (.tup [.ref c1])) t8 = some (.tup [.ref c1]) := upd_same
    generalize upd G7 t8 (.tup [.ref c1]) = G8 at *
    have d8 : OdF K a c G8 (.ref t8) := .box (ns := ns) z8 (by rw [hxs]; exact y8 _ _ hcG7)
    have el : ∀ y ∈ [V.ref t1, .non, .int 0, .str "0", .ref t2, .ref t3, .ref t4, .ref t5, .ref t6, .ref t7, .ref t8], OdF K a c G8 y := by
      intro y hy
      rcases List.mem_cons.mp hy with rfl | hy
      · exact d1.ext (y2.trans (y3.trans (y4.trans (y5.trans (y6.trans (y7.trans y8))))))
      rcases List.mem_cons.mp hy with rfl | hy
      · exact .non
      rcases List.mem_cons.mp hy with rfl | hy
      · exact .int _
      rcases List.mem_cons.mp hy with rfl | hy
      · exact .str _
      rcases List.mem_cons.mp hy with rfl | hy
      · exact d2.ext (y3.trans (y4.trans (y5.trans (y6.trans (y7.trans y8)))))
      rcases List.mem_cons.mp hy with rfl | hy
      · exact d3.ext (y4.trans (y5.trans (y6.trans (y7.trans y8))))
      rcases List.mem_cons.mp hy with rfl | hy
      · exact d4.ext (y5.trans (y6.trans (y7.trans y8)))
      rcases List.mem_cons.mp hy with rfl | hy
      · exact d5.ext (y6.trans (y7.trans y8))
      rcases List.mem_cons.mp hy with rfl | hy
      · exact d6.ext (y7.trans y8)
      rcases List.mem_cons.mp hy with rfl | hy
      · exact d7.ext y8
      · rw [List.mem_singleton.mp hy]
        exact d8
    have eC : Ext H14 G8 := y1.trans (y2.trans (y3.trans (y4.trans (y5.trans (y6.trans (y7.trans y8))))))
    clear d1 d2 d3 d4 d5 d6 d7 d8 z1 z2 z3 z4 z5 z6 z8 q7 x7 hcG hcG7 y1 y2 y3 y4 y5 y6 y7 y8 m1 m2 m3 m4 m5 m6 m8 n6
    have six8 : ∀ y ∈ os, OdF K a c G8 y := fun y hy => (six y hy).ext (x14.trans eC)
    have hu8 := eC _ _ hu
    generalize hE : [V.ref t1, .non, .int 0, .str "0", .ref t2, .ref t3, .ref t4, .ref t5, .ref t6, .ref t7, .ref t8] = es at *
    have le : es.length = 11 := by rw [← hE]; rfl
    have e9 := Ext.upd (o := .lst es) nu2
    refine ⟨u, u2, os, es, rfl, rfl, e9 _ _ hu8, upd_same, Nat.le_of_lt (small1000 (by omega)), fun u3 nu3 => ?_⟩
    have e10 := Ext.upd (o := .lst (os ++ es)) nu3
    have hu3 : (upd (upd G8 u2 (.lst es)) u3 (.lst (os ++ es))) u3 = some (.lst (os ++ es)) := upd_same
    have eD : Ext H2 (upd (upd G8 u2 (.lst es)) u3 (.lst (os ++ es))) := eB.trans (x14.trans (eC.trans (e9.trans e10)))
    have odd : ∀ y ∈ os ++ es, OdF K a c (upd (upd G8 u2 (.lst es)) u3 (.lst (os ++ es))) y := fun y hy => ((List.mem_append.mp hy).elim (six8 y) (el y)).ext (e9.trans e10)
    have u3ac := (Go.of_ext go2.1 (eB.trans (x14.trans (eC.trans e9)))).1.ne nu3
    generalize upd (upd G8 u2 (.lst es)) u3 (.lst (os ++ es)) = J0 at *
    clear six six8 el e9 e10 eC hu hu8 x14 eB nu nu2 nu3 hc13 hc14 hO hE
    have goJ := go2.trans (Go.of_ext go2.1 eD)
    refine ⟨_, rfl, a, c, 8, rfl, goJ.1, by decide, by decide, fun r3 J1 a3 b3 g3 => ?_⟩
    have goK := goJ.trans g3
    have hlK := goK.2 _ _ na nc hl
    have ptK := PT2.mono (fun _ _ z => Go.tup bag goK z) pt
    have hu3K := g3.2 _ _ u3ac.1 u3ac.2 hu3
    have oddK : ∀ y ∈ os ++ es, OdF K a c J1 y := fun y hy => (odd y hy).go goJ.1 g3
    have hcK := Go.tup go2.1 ((Go.of_ext go2.1 eD).trans g3) hc
    clear odd hu3 eD hc
    have c1m : V.ref c1 ∈ as.map V.ref := List.mem_of_getElem? w1
    have lcut := fun lo hi => cutV_length (as.map V.ref) lo hi
    have lm : (as.map V.ref).length = as.length := List.length_map ..
    have fin : ∀ (r : Addr) (zs : List V) (H' : Hp), Go a c H H' → H' r = some (.lst zs) → zs.length ≤ 100 → (∀ y ∈ zs, y ∈ as.map V.ref ∨ Part K H' y) → Q (.ref r) H' := fun r zs H' go hr hz hp =>
      k r zs H' go hr hz fun y hy => (hp y hy).elim (part_cell (PT2.mono (fun _ _ z => Go.tup bag go z) pt) gd y) id
    refine ⟨_, rfl, rfl, _, rfl, ?_⟩
    refine ite2 (fun _ => ?_) (fun _ => ?_)
    · refine ⟨_, rfl, _, rfl, r1, rfl, l, _, rfl, SqL.of hlK, fun s1 ns1 => ?_⟩
      have f1 := Ext.upd (o := .lst (cutV (as.map V.ref) none (some r1))) ns1
      refine ⟨_, rfl, _, rfl, _, _, rfl, rfl, r1 + 1, rfl, ?_⟩
      dsimp only [tNoPart]
      refine ⟨l, _, rfl, SqL.of (f1 _ _ hlK), fun s2 ns2 => ?_⟩
      have f2 := Ext.upd (o := .lst (cutV (as.map V.ref) (some (r1 + 1)) none)) ns2
      have b1 := lcut none (some r1)
      have b2 := lcut (some (r1 + 1)) none
      refine ⟨s1, s2, _, _, rfl, rfl, f2 _ _ upd_same, upd_same, Nat.le_of_lt (small1000 (by omega)), fun r nr => ?_⟩
      exact fin r _ _ (goK.trans (Go.of_ext goK.1 (f1.trans (f2.trans (Ext.upd nr))))) upd_same (by rw [List.length_append]; omega) fun y hy => (List.mem_append.mp hy).elim (fun z => .inl (cut_mem z)) fun z => .inl (cut_mem z)
    refine ⟨_, rfl, rfl, _, rfl, ?_⟩
    refine ite2 (fun _ => ?_) (fun _ => ?_)
    · refine ⟨_, rfl, _, rfl, r1, rfl, l, _, rfl, SqL.of hlK, fun s1 ns1 => ?_⟩
      have f1 := Ext.upd (o := .lst (cutV (as.map V.ref) none (some r1))) ns1
      have b1 := lcut none (some r1)
      refine ⟨_, rfl, by show 1 ≤ sizeLine; decide, fun s2 ns2 => ?_⟩
      have f2 := Ext.upd (o := .lst [.ref c1]) ns2
      refine ⟨s1, s2, _, _, rfl, rfl, f2 _ _ upd_same, upd_same, Nat.le_of_lt (small1000 (by rw [List.length_singleton]; omega)), fun s3 ns3 => ?_⟩
      have f3 := Ext.upd (o := .lst (cutV (as.map V.ref) none (some r1) ++ [.ref c1])) ns3
      refine ⟨_, rfl, _, rfl, r1, rfl, ?_⟩
      dsimp only [tNoPart]
      refine ⟨l, _, rfl, SqL.of (f3 _ _ (f2 _ _ (f1 _ _ hlK))), fun s4 ns4 => ?_⟩
      have f4 := Ext.upd (o := .lst (cutV (as.map V.ref) (some r1) none)) ns4
      have b2 := lcut (some r1) none
      refine ⟨s3, s4, _, _, rfl, rfl, f4 _ _ upd_same, upd_same, Nat.le_of_lt (small1000 (by rw [List.length_append, List.length_singleton]; omega)), fun r nr => ?_⟩
      refine fin r _ _ (goK.trans (Go.of_ext goK.1 (f1.trans (f2.trans (f3.trans (f4.trans (Ext.upd nr))))))) upd_same (by rw [List.length_append, List.length_append, List.length_singleton]; omega) fun y hy => ?_
      rcases List.mem_append.mp hy with z | z
      · rcases List.mem_append.mp z with z | z
        · exact .inl (cut_mem z)
        · rw [List.mem_singleton.mp z]
          exact .inl c1m
      · exact .inl (cut_mem z)
    refine ⟨_, rfl, _, _, rfl, rfl, _, rfl, ?_⟩
    refine ite2 (fun _ => ?_) (fun _ => ?_)
    · have v2 : as[r2.toNat]? = some as[r2.toNat] := List.getElem?_eq_getElem (by omega)
      generalize as[r2.toNat] = c2 at *
      have w2 : (as.map V.ref)[r2.toNat]? = some (.ref c2) := by rw [List.getElem?_map, v2]; rfl
      have c2m : V.ref c2 ∈ as.map V.ref := List.mem_of_getElem? w2
      have ixn : ∀ (n : Nat) (r : Int), 0 ≤ r → r < n → ixN n r = some r.toNat := fun n r h0 h => by unfold ixN; rw [if_pos h0, if_pos h]
      refine ⟨_, rfl, l, _, rfl, .inl (SqL.of hlK), fun d nd => ?_⟩
      have f1 := Ext.upd (o := .lst (as.map V.ref)) nd
      refine ⟨_, rfl, _, rfl, l, _, r2, _, rfl, rfl, SqL.of (f1 _ _ hlK), at_of (j := r2.toNat) (by omega) w2, ?_⟩
      refine ⟨_, rfl, _, rfl, l, _, r1, _, rfl, rfl, SqL.of (f1 _ _ hlK), at_of (j := r1.toNat) (by omega) w1, ?_⟩
      refine ⟨by show 2 ≤ sizeLine; decide, fun t nt => ?_⟩
      have f2 := Ext.upd (o := .tup [.ref c2, .ref c1]) nt
      have nd0 := goK.none_back nd
      refine ⟨t, _, rfl, SqT.of upd_same, rfl, _, _, rfl, _, rfl, _, rfl, d, _, r1, r1.toNat, rfl, rfl, f2 _ _ upd_same, ixn _ _ a1 (by omega), ?_⟩
      refine ⟨_, _, rfl, _, rfl, _, rfl, d, _, r2, r2.toNat, rfl, rfl, upd_same, ixn _ _ a2 (by rw [List.length_set]; omega), rfl, _, rfl, ?_⟩
      refine fin d _ _ (Go.put bag (Go.put bag (goK.trans (Go.of_ext goK.1 (f1.trans f2))) nd0) nd0) upd_same (by rw [List.length_set, List.length_set]; omega) fun y hy => ?_
      rcases List.mem_or_eq_of_mem_set hy with z | z
      · rcases List.mem_or_eq_of_mem_set z with z | z
        · exact .inl z
        · rw [z]
          exact .inl c2m
      · rw [z]
        exact .inl c1m
    · refine ⟨_, rfl, _, rfl, r1, rfl, l, _, rfl, SqL.of hlK, fun s1 ns1 => ?_⟩
      have f1 := Ext.upd (o := .lst (cutV (as.map V.ref) none (some r1))) ns1
      have b1 := lcut none (some r1)
      have go1 := Go.of_ext goK.1 f1
      have s1ac := goK.1.ne ns1
      have lo2 : (os ++ es).length = 17 := by rw [List.length_append]; omega
      refine ⟨_, rfl, _, rfl, a, c, u3, _, rfl, go1.1, u3ac.1, u3ac.2, f1 _ _ hu3K, (fun z => by rw [z] at lo2; cases lo2), by omega, fun x J2 hx g4 => ?_⟩
      have ox := ((oddK x hx).ext f1).go go1.1 g4
      have hs1 := g4.2 _ _ s1ac.1 s1ac.2 (upd_same (H := J1) (a := s1) (o := .lst (cutV (as.map V.ref) none (some r1))))
      have hl4 := g4.2 _ _ na nc (f1 _ _ hlK)
      have go4 := goK.trans (go1.trans g4)
      refine ⟨by show 1 ≤ sizeLine; decide, fun t nt => ?_⟩
      have f2 := Ext.upd (o := .lst [x]) nt
      refine ⟨s1, t, _, _, rfl, rfl, f2 _ _ hs1, upd_same, Nat.le_of_lt (small1000 (by rw [List.length_singleton]; omega)), fun s3 ns3 => ?_⟩
      have f3 := Ext.upd (o := .lst (cutV (as.map V.ref) none (some r1) ++ [x])) ns3
      refine ⟨_, rfl, _, rfl, _, rfl, _, _, rfl, rfl, .inr ⟨_, rfl, _, _, rfl, rfl, _, rfl, ?_⟩⟩
      dsimp only [tNoPart]
      refine ⟨l, _, rfl, SqL.of (f3 _ _ (f2 _ _ hl4)), fun s4 ns4 => ?_⟩
      have b2 := fun lo => lcut (some lo) none
      refine ⟨s3, s4, _, _, rfl, rfl, Ext.upd ns4 _ _ upd_same, upd_same, Nat.le_of_lt (small1000 (by have := b2 (r1 + if decide (r3 < 7) = true then 1 else 0); rw [List.length_append, List.length_singleton]; omega)), fun r nr => ?_⟩
      have f4 := Ext.upd (o := .lst (cutV (as.map V.ref) (some (r1 + if decide (r3 < 7) = true then 1 else 0)) none)) ns4
      have f5 := Ext.upd (o := .lst (cutV (as.map V.ref) none (some r1) ++ [x] ++ cutV (as.map V.ref) (some (r1 + if decide (r3 < 7) = true then 1 else 0)) none)) nr
      have eF := f2.trans (f3.trans (f4.trans f5))
      refine fin r _ _ (go4.trans (Go.of_ext go4.1 eF)) upd_same (by have := b2 (r1 + if decide (r3 < 7) = true then 1 else 0); rw [List.length_append, List.length_append, List.length_singleton]; omega) fun y hy => ?_
      rcases List.mem_append.mp hy with z | z
      · rcases List.mem_append.mp z with z | z
        · exact .inl (cut_mem z)
        · rw [List.mem_singleton.mp z]
          exact .inr (ox.ext eF).part
      · exact .inl (cut_mem z)
end
end T39

set_option Elab.async false
set_option linter.all false
set_option maxRecDepth 100000
set_option maxHeartbeats 1000000
set_option pp.maxSteps 60
/-! == of a tuple and an instance of an own class with an own __eq__: it is asked the other way round. -/
namespace T39
open PySem L2
section
open PySem.Spec PyProof.Rows PySem.W
variable {X : Cx} {CX : CXT} {k : Nat} {f C : Addr} {fd : FuncData} {ps : List Str} {sp : Sp}
def rOwnR (C : Addr) (sp : Sp) : R2 := fun x y H Q => ∃ (a : Addr) (xs : List V) (b dx : Addr) (fs : List (Str × V)), x = .ref a ∧ H a = some (.tup xs) ∧ y = .ref b ∧ H b = some (.ins C dx fs) ∧ sp [.ref b, .ref a] H (fun v H' => (∃ bo, v = .bl bo) ∧ Q v H') E0
theorem op_ownR (F1 : FnOk X.prog X.w X.K X.mg X.base CX0 k f fd ps sp) (hs : PySem.W.findIn X.K (.ref C) "__eq__" = some (some (.ref f))) (hf : PySem.W.isFn X.K (.ref f) = true) (hb : Binds X.K fd ps []) (hr : Room k X.A)
    (sub : subIn X.K (.ref C) (.type "tuple") = some false) : OpR X (compareOp .Eq) (rOwnR C sp) := by
  rintro pins s σ H x y v u Q I rx ry ⟨a, xs, b, dx, fs, rfl, ha, rfl, hb', q⟩
  obtain rfl : v = Value.ref a := rx
  obtain rfl : u = Value.ref b := ry
  obtain ⟨mA, J, _⟩ := ins_get I.hok hb'
  obtain ⟨od, J, _⟩ := J.look
  obtain ⟨its, r, pl, _⟩ := I.tuple (SqT.of ha)
  have kin := I.kIn
  have hT := pl.typeIs
  have decl : wpAny (model X.prog X.w) X.A (call (.builtin "tuple.__eq__") [.ref a, .ref b]) (fun v s' => v = .notImplemented ∧ s' = s) X.xe s := by
    refine wpAny_call_entry F.slot_tuple_eq hT F.entry_tuple_eq ?_ (F.args_tuple_eq_2 _ _)
    wp_step
    wp_step
    wp_step
    show wpAny (model X.prog X.w) X.A.in1 (pure (Value.ref a, [Value.ref b])) _ _ _
    refine wpAny_pure ?_
    refine wpAny_bind (m := isInstance (.ref b) (.type "tuple")) ?_
    refine wpAny_bind (J.type.here ?_)
    refine (looks_subIn kin sub).here ?_
    exact wpAny_pure ⟨_, rfl, rfl, rfl⟩
  have one : wpAny (model X.prog X.w) X.A (tryCompare (.ref b) "__eq__" (.ref a)) (fun r s' => ∃ v, r = some v ∧ EP X pins σ Q v s') X.xe s := by
    unfold tryCompare
    refine wpAny_bind (ifBound_K kin J hs hf (wpAny_mono (run_fn (vs := [V.ref b, V.ref a]) F1 hr hb .nil pass0 I (.cons rfl (.cons rfl .nil)) (show sp ([V.ref b, V.ref a] ++ []) H _ E0 from q)) (fun v s' hv => ?_) fun _ _ e => e))
    obtain ⟨z, H', I', rz, ⟨b, rfl⟩, qz⟩ := hv
    cases rz
    exact wpAny_pure ⟨_, rfl, .bl b, H', I', rfl, qz⟩
  show wpAny (model X.prog X.w) X.A (richCompare .Eq (.ref a) (.ref b)) (EP X pins σ Q) X.xe s
  unfold richCompare
  simp only [oneThing_ref]
  refine wpAny_holding (wpAny_bind (wpAny_cRoomFor hr.units0 ?_))
  refine wpAny_bind (wpAny_typeOf hT (wpAny_bind (J.type.here ?_)))
  rw [if_pos (by rfl)]
  refine wpAny_bind ((looks_subIn kin sub).here ?_)
  simp only [Bool.false_eq_true, if_false, Bool.not_false, if_true]
  refine wpAny_bind (m := tryCompare (.ref a) _ (.ref b)) (wpAny_tryCompare_declines hT F.slot_tuple_eq (wpAny_mono decl (fun v s' hv => ?_) fun _ _ e => e))
  obtain ⟨rfl, rfl⟩ := hv
  refine ⟨rfl, ?_⟩
  refine wpAny_bind (m := tryCompare (.ref b) _ (.ref a)) (wpAny_mono one (fun r s' z => ?_) fun _ _ e => e)
  obtain ⟨v, rfl, hq⟩ := z
  exact wpAny_pure hq
end
end T39

set_option Elab.async false
set_option linter.all false
set_option maxRecDepth 100000
set_option maxHeartbeats 1000000
set_option pp.maxSteps 60
/-! The law's own judge of exchanged. -/
namespace T39
open PySem L2
abbrev sXR : Stmt := top 28
/-- a right tower made -/
theorem mk_tow {K : PySem.W.Frag} {CT CB : Addr} {H : Hp} {b : Addr} {as : List Addr} {ll : List (List Int)} {Q : Addr → Hp → Prop} {E : XK} (hb : H b = some (.tup (as.map V.ref))) (pt : PT2 H as ll) (la : as.length ≤ 40) (gd : GoodT ll)
    (k : ∀ (p : Addr) (H' : Hp), Ext H H' → TowAt CT H' p b → Q p H') : ∀ x dx, H x = none → H dx = none → dx ≠ x → spTow K CT CB (.ref x :: [.ref b]) (upd (upd H dx (.own x)) x (.ins CT dx [])) (fun v H2 => v = .non ∧ Q x H2) E := by
  intro x dx nx ndx ne
  have e1 : Ext H (upd (upd H dx (.own x)) x (.ins CT dx [])) := (Ext.upd ndx).trans (Ext.upd (by rw [upd_ne ne.symm]; exact nx))
  have th := (thing_of (K := K) hb pt (Nat.le_trans la (by decide)) (good_short gd)).ext e1
  refine ⟨x, dx, _, rfl, upd_same, th, fun b' H6 eb _ hw kp => ⟨rfl, ?_⟩, fun v d H6 dv _ _ _ => ?_⟩
  · cases eb
    exact k x H6 (fun c u hc => kp c u (ne_of_none hc nx) (e1 _ _ hc)) ⟨dx, hw⟩
  · exact (dv.not_good ⟨_, _, _, rfl, e1 _ _ hb, la, PT2.mono (fun _ _ z => e1 _ _ z) pt, gd⟩).elim
/-- what the text has of exchanged -/
structure ExchC (P : Program) (w : World) (K : PySem.W.Frag) (mg : Str → Option Value) (base : Heap) (CT NX fX : Addr) (fdX : FuncData) : Prop where
  ok : FnOk P w K mg base (L2.CX P w) 7 fX fdX ["tower", "at"] (spExch K CT NX)
  mX : mg "exchanged" = some (.ref fX)
  kX : PySem.W.keepIn K (.ref fX) = true
  bX : Binds K fdX ["tower", "at"] []
  gN : mg "NoExchange" = some (.ref NX)
  te : PySem.W.exmOne K (.ref NX) (.ref NX) = some true
structure TowF (P : Program) (w : World) (K : PySem.W.Frag) (mg : Str → Option Value) (base : Heap) (CT CB fT fE : Addr) (fdT fdE : FuncData) : Prop where
  mkC : Mk K CT fT
  ok : FnOk P w K mg base (L2.CX P w) 5 fT fdT ["self", "cells"] (spTow K CT CB)
  bT : Binds K fdT ["self", "cells"] []
  eq : FnOk P w K mg base CX0 1 fE fdE ["self", "other"] (spEqT K CT)
  hs : PySem.W.findIn K (.ref CT) "__eq__" = some (some (.ref fE))
  hf : PySem.W.isFn K (.ref fE) = true
  bE : Binds K fdE ["self", "other"] []
  sub : PySem.W.subIn K (.ref CT) (.type "tuple") = some false
theorem cut_swap {as : List Addr} {k : Nat} {c1 c2 : Addr} (hk : k + 1 < as.length) : (cutV (as.map V.ref) none (some (k : Int)) ++ [V.ref c2, V.ref c1]) ++ cutV (as.map V.ref) (some ((k : Int) + 2)) none = (as.take k ++ ([c2, c1] ++ as.drop (k + 2))).map V.ref := by
  have s1 : HT.sIx (as.map V.ref).length (as.map V.ref).length (some (k : Int)) = k := by rw [HT.sIx_nat, List.length_map]; omega
  have s2 : HT.sIx (as.map V.ref).length 0 (some ((k : Int) + 2)) = k + 2 := by rw [show ((k : Int) + 2) = ((k + 2 : Nat) : Int) by omega, HT.sIx_nat, List.length_map]; omega
  unfold cutV
  rw [s1, s2, HT.sIx_none, HT.sIx_none, List.drop_zero, Nat.sub_zero, List.take_of_length_le (l := (as.map V.ref).drop (k + 2)) (by rw [List.length_drop]; exact Nat.le_refl _), List.append_assoc]
  simp [List.map_take, List.map_drop]
theorem first_same {K : PySem.W.Frag} {C : Addr} : PySem.W.notFirst K C (.ref C) = true := by
  unfold PySem.W.notFirst
  exact Bool.or_eq_true_iff.mpr (.inl (beq_self_eq_true _))
def spXR : Sp := fun vs H Q _ => ∃ (l : Addr) (as : List Addr) (ll : List (List Int)) (k : Nat), vs = [.ref l, .int (k : Int)] ∧ H l = some (.lst (as.map V.ref)) ∧ PT2 H as ll ∧ GoodT ll ∧ as.length ≤ 40 ∧ k + 1 < as.length ∧ ∀ H' : Hp, Ext H H' → Q (.bl true) H'
section
variable {P : Program} {w : World} {K : PySem.W.Frag} {mg : Str → Option Value} {base : Heap}
abbrev xrN : List Str := ["_law_cells", "_law_at", "_law_tower", "_law_found", "_law_due_here"]
theorem scXR : FnScope xrN ["_law_cells", "_law_at"] (defScope sXR) := ⟨rfl, rfl, rfl, by decide +kernel, rfl, by decide +kernel, by decide +kernel⟩
theorem ok_xr {f fT fE fX CT CB NX : Addr} {fd fdT fdE fdX : FuncData} (F : L2.Fun K "_law_exchanged_right" "_law_exchanged_right" sXR f fd) (T : Gb mg) (W : TowK K mg CT) (IW : IsC K CT) (A1 : TowF P w K mg base CT CB fT fE fdT fdE) (X1 : ExchC P w K mg base CT NX fX fdX)
    (cF : Cal P w K mg base 1 "_law_faces" spFaces []) : FnOk P w K mg base CX0 8 f fd ["_law_cells", "_law_at"] spXR := by
  refine F.ok scXR (fun vs H Q E h => ?_) (fun cdv A outer s H vs Q E hr h => ?_)
  · obtain ⟨l, as, ll, k, rfl, _⟩ := h
    rfl
  · obtain ⟨l, as, ll, k, rfl, hl, pt, gd, la, hk, kQ⟩ := h
    refine ⟨_, pss_cons (ps_par (i := 2) (j := 3) rfl scXR.nd rfl rfl (by decide) rfl rfl (pa_cons (pe_makeS A1.mkC A1.ok (hr.mono (by decide)) (by rfl) W.mgC A1.bT (fun σ => passAt takes0 σ) (pa_cons (pe_callTy call_tuple_of (by rfl) T.tup (by decide +kernel) (pa_cons (pv 0) pa_nil)) pa_nil)) (pa_cons pe_non pa_nil)) (by rfl))
      (pss_cons (ps_try_only rfl rfl ⟨rfl, by decide, .inl X1.gN⟩ takes0
        (fun W' pn xe tk _ => pss_one (ps_set (i := 3) scXR.nd rfl (Or.inl rfl) (pe_callS X1.ok (hr.mono (by decide)) (by rfl) X1.mX X1.kX X1.bX (fun σ => passAt tk σ) (pa_cons (pv 2) (pa_cons (pv 1) pa_nil)))))
        (fun a oe cls d pn hz hf => pss_one (ps_set (i := 3) scXR.nd rfl (Or.inl rfl) pe_non)))
      (pss_cons (ps_if (pt_cmpR (op_inD (u65 hr)) (pe_ix ix_list (pv 0) (pv 1) (fun _ _ => rfl)) (C8.pe_c cF hr (by decide) (by rfl) (pa_cons (pe_ix ix_list (pv 0) (pe_op op_add (pv 1) pe_int) (fun _ _ => rfl)) pa_nil)) (by rfl)) (pss_one (ps_ret (pe_cmpR op_isN (pv 3) pe_non (nomark _)))) pss_nil)
      (pss_cons (ps_if (pt_cmpR op_isN (pv 3) pe_non (nomark _)) (pss_one (ps_ret pe_bl)) pss_nil)
      (pss_cons (ps_set (i := 4) scXR.nd rfl (Or.inl rfl) (pe_op op_cat (pe_op op_cat (pe_slice sl_list (pv 0) po_none (po_some (pv 1))) (pe_lst (pa_cons (pe_ix ix_list (pv 0) (pe_op op_add (pv 1) pe_int) (fun _ _ => rfl)) (pa_cons (pe_ix ix_list (pv 0) (pv 1) (fun _ _ => rfl)) pa_nil)))) (pe_slice sl_list (pv 0) (po_some (pe_op op_add (pv 1) pe_int)) po_none)))
      (pss_one (ps_ret (pe_and (pe_cmpR (op_eqD hr.units) (pe_fld (pv 3) rfl) (pe_callTy call_tuple_of (by rfl) T.tup (by decide +kernel) (pa_cons (pv 4) pa_nil)) (nomark _))
        (pe_and (pe_cmpR (op_own A1.eq A1.hs A1.hf A1.bE (hr.mono (by decide))) (pe_callS X1.ok (hr.mono (by decide)) (by rfl) X1.mX X1.kX X1.bX (fun σ => passAt takes0 σ) (pa_cons (pv 3) (pa_cons (pv 1) pa_nil))) (pv 2) (nomark _))
          (pe_one (pe_cmpR (op_eqD hr.units) (pe_fld (pv 2) rfl) (pe_callTy call_tuple_of (by rfl) T.tup (by decide +kernel) (pa_cons (pv 0) pa_nil)) (nomark _))))))))))), ?_⟩
    have ln := PT2.len pt
    have a1 : as[k]? = some as[k] := List.getElem?_eq_getElem (by omega)
    have a2 : as[k + 1]? = some as[k + 1] := List.getElem?_eq_getElem hk
    generalize as[k] = c1 at *
    generalize as[k + 1] = c2 at *
    obtain ⟨l1, h1, hc1⟩ := pt.get a1
    obtain ⟨l2, h2, hc2⟩ := pt.get a2
    have v1 : (as.map V.ref)[k]? = some (.ref c1) := by rw [List.getElem?_map, a1]; rfl
    have v2 : (as.map V.ref)[k + 1]? = some (.ref c2) := by rw [List.getElem?_map, a2]; rfl
    have cl2 := good_cells gd l2 (List.mem_of_getElem? h2)
    refine ⟨_, rfl, l, _, rfl, .inl ⟨SqL.of hl, fun t nt => ?_⟩⟩
    have x1 := Ext.upd (o := .tup (as.map V.ref)) nt
    have ht : (upd H t (.tup (as.map V.ref))) t = some (.tup (as.map V.ref)) := upd_same
    generalize upd H t (.tup (as.map V.ref)) = H1 at *
    refine mk_tow ht (PT2.mono (fun _ _ z => x1 _ _ z) pt) la gd fun p H2 x2 tw => ?_
    refine ⟨_, _, rfl, ?_⟩
    have e2 := x1.trans x2
    have ptH := fun (H' : Hp) (e : Ext H H') => PT2.mono (fun _ _ z => e _ _ z) pt
    refine ⟨_, rfl, _, rfl, p, t, as, ll, k, l1, l2, rfl, tw, x2 _ _ ht, ptH _ e2, gd, la, h1, h2, fun p' b' as' H3 no e3 tw' hb' pt' => ?_, fun H3 yes e3 => ?_⟩
    · have e03 := e2.trans e3
      refine ⟨_, rfl, _, rfl, l, _, (k : Int), _, rfl, rfl, SqL.of (e03 _ _ hl), atI_nat v1, ?_⟩
      refine ⟨_, rfl, _, rfl, _, _, rfl, rfl, l, _, _, _, rfl, rfl, SqL.of (e03 _ _ hl), at_of (j := k + 1) (by omega) v2, c2, l2, rfl, e03 _ _ hc2, cl2.1, cl2.2.1, fun fl fs H4 e4 hf pf => ?_⟩
      refine in_L (e4 _ _ (e03 _ _ hc1)) hf pf ⟨_, rfl, ?_⟩
      have e04 := e03.trans e4
      refine ite2 (fun z => absurd (of_decide_eq_true z) no) (fun _ => ?_)
      refine ⟨_, rfl, rfl, _, rfl, ?_⟩
      refine ite2 (fun z => absurd (of_decide_eq_true z) (fun q => nomatch q)) (fun _ => ?_)
      obtain ⟨gs, no'⟩ := good_swap gd h1 h2 no
      obtain ⟨sg1, sg2, sg3⟩ := swap_get h1 h2
      have lc := cutV_length (as.map V.ref) none (some (k : Int))
      have ld := cutV_length (as.map V.ref) (some ((k : Int) + 2)) none
      rw [List.length_map] at lc ld
      refine ⟨_, rfl, _, rfl, (k : Int), rfl, l, _, rfl, SqL.of (e04 _ _ hl), fun s1 ns1 => ?_⟩
      have y1 := Ext.upd (o := .lst (cutV (as.map V.ref) none (some (k : Int)))) ns1
      have e05 := e04.trans y1
      refine ⟨_, rfl, _, rfl, _, _, rfl, rfl, l, _, _, _, rfl, rfl, SqL.of (e05 _ _ hl), at_of (j := k + 1) (by omega) v2, ?_⟩
      refine ⟨_, rfl, _, rfl, l, _, (k : Int), _, rfl, rfl, SqL.of (e05 _ _ hl), atI_nat v1, by show 2 ≤ sizeLine; decide, fun s2 ns2 => ?_⟩
      have y2 := Ext.upd (o := .lst [V.ref c2, .ref c1]) ns2
      refine ⟨s1, s2, _, _, rfl, rfl, y2 _ _ upd_same, upd_same, Nat.le_of_lt (small1000 (by show _ + 2 ≤ 1000; omega)), fun s3 ns3 => ?_⟩
      have y3 := Ext.upd (o := .lst (cutV (as.map V.ref) none (some (k : Int)) ++ [V.ref c2, .ref c1])) ns3
      have e06 := e05.trans (y2.trans y3)
      refine ⟨_, rfl, _, rfl, _, _, rfl, rfl, (k : Int) + 2, rfl, ?_⟩
      dsimp only [tNoPart]
      refine ⟨l, _, rfl, SqL.of (e06 _ _ hl), fun s4 ns4 => ?_⟩
      have y4 := Ext.upd (o := .lst (cutV (as.map V.ref) (some ((k : Int) + 2)) none)) ns4
      refine ⟨s3, s4, _, _, rfl, rfl, y4 _ _ upd_same, upd_same, Nat.le_of_lt (small1000 (by rw [List.length_append]; show _ + 2 + _ ≤ 1000; omega)), fun D nD => ?_⟩
      rw [cut_swap hk]
      have y5 := Ext.upd (o := .lst ((as.take k ++ ([c2, c1] ++ as.drop (k + 2))).map V.ref)) nD
      have e3D := e4.trans (y1.trans (y2.trans (y3.trans (y4.trans y5))))
      have hD : (upd (upd (upd (upd (upd H4 s1 (.lst (cutV (as.map V.ref) none (some (k : Int))))) s2 (.lst [V.ref c2, .ref c1])) s3 (.lst (cutV (as.map V.ref) none (some (k : Int)) ++ [V.ref c2, .ref c1]))) s4 (.lst (cutV (as.map V.ref) (some ((k : Int) + 2)) none))) D (.lst ((as.take k ++ ([c2, c1] ++ as.drop (k + 2))).map V.ref))) D = some (.lst ((as.take k ++ ([c2, c1] ++ as.drop (k + 2))).map V.ref)) := upd_same
      generalize upd (upd (upd (upd (upd H4 s1 (.lst (cutV (as.map V.ref) none (some (k : Int))))) s2 (.lst [V.ref c2, .ref c1])) s3 (.lst (cutV (as.map V.ref) none (some (k : Int)) ++ [V.ref c2, .ref c1]))) s4 (.lst (cutV (as.map V.ref) (some ((k : Int) + 2)) none))) D (.lst ((as.take k ++ ([c2, c1] ++ as.drop (k + 2))).map V.ref)) = H5 at *
      have e0D := e03.trans e3D
      obtain ⟨dx', hp'⟩ := tw'
      refine ⟨_, rfl, p', CT, dx', _, _, rfl, e3D _ _ hp', W.cl, W.nC, cf_cells _, _, rfl, D, _, rfl, .inl ⟨SqL.of hD, fun u nu => ?_⟩⟩
      have y6 := Ext.upd (o := .tup ((as.take k ++ ([c2, c1] ++ as.drop (k + 2))).map V.ref)) nu
      have e36 := e3D.trans y6
      have e06 := e03.trans e36
      have ptS : PT2 (upd H5 u (.tup ((as.take k ++ ([c2, c1] ++ as.drop (k + 2))).map V.ref))) (as.take k ++ ([c2, c1] ++ as.drop (k + 2))) (swapAt ll k l1 l2) :=
        p_app (p_take k (ptH _ e06)) (p_app (.cons (e06 _ _ hc2) (.cons (e06 _ _ hc1) .nil)) (p_drop (k + 2) (ptH _ e06)))
      have pt'' := PT2.mono (fun _ _ z => e36 _ _ z) pt'
      have tt1 : TT (upd H5 u (.tup ((as.take k ++ ([c2, c1] ++ as.drop (k + 2))).map V.ref))) b' (swapAt ll k l1 l2) := ⟨as', e36 _ _ hb', pt''⟩
      have tt2 : TT (upd H5 u (.tup ((as.take k ++ ([c2, c1] ++ as.drop (k + 2))).map V.ref))) u (swapAt ll k l1 l2) := ⟨_, upd_same, ptS⟩
      have las : as'.length ≤ 40 := by
        have q1 := PT2.len pt''
        have q2 := PT2.len ptS
        simp only [List.length_append, List.length_take, List.length_drop, List.length_cons, List.length_nil] at q2
        omega
      generalize upd H5 u (.tup ((as.take k ++ ([c2, c1] ++ as.drop (k + 2))).map V.ref)) = H6 at *
      refine ⟨_, _, tt1.dp, tt2.dp, shaped_dT _, shaped_dT _, _, rfl, ?_⟩
      rw [eqv_dT]
      refine ite2 (fun _ => ?_) (fun z => absurd (decide_eq_true rfl) z)
      refine ⟨_, rfl, _, rfl, p', b', as', swapAt ll k l1 l2, k, l2, l1, rfl, ⟨dx', e36 _ _ hp'⟩, e36 _ _ hb', pt'', gs, las, sg1, sg2, fun p2 b2 as2 H7 no2 e7 tw2 hb2 pt2 => ?_, fun H7 yes _ => (no' yes).elim⟩
      have e07 := e06.trans e7
      have e27 := e3.trans (e36.trans e7)
      obtain ⟨dx2, hp2⟩ := id tw2
      obtain ⟨dx, hp⟩ := tw.ext e27
      refine ⟨_, rfl, p2, dx2, _, .ref CT, rfl, hp2, IW.ty hp, first_same, p2, .ref p, b2, _, rfl, tw2, ⟨as2, hb2, pt2⟩, .inl ⟨p, t, ll, rfl, ⟨dx, hp⟩, ⟨as, e27 _ _ (x2 _ _ ht), ptH _ e07⟩, ⟨_, rfl⟩, _, rfl, ?_⟩⟩
      refine ite2 (fun _ => ?_) (fun z => absurd (decide_eq_true sg3) z)
      refine ⟨_, rfl, p, CT, dx, _, _, rfl, hp, W.cl, W.nC, cf_cells _, _, rfl, l, _, rfl, .inl ⟨SqL.of (e07 _ _ hl), fun u2 nu2 => ?_⟩⟩
      have y7 := Ext.upd (o := .tup (as.map V.ref)) nu2
      have e08 := e07.trans y7
      refine ⟨dT ll, dT ll, TT.dp ⟨as, y7 _ _ (e27 _ _ (x2 _ _ ht)), ptH _ e08⟩, TT.dp ⟨as, upd_same, ptH _ e08⟩, shaped_dT _, shaped_dT _, ?_⟩
      rw [eqv_dT, decide_eq_true rfl]
      exact kQ _ e08
    · refine ⟨true, X1.te, fun _ a na => ?_, fun z => Bool.noConfusion z⟩
      have e03 := e2.trans e3
      refine ⟨_, rfl, _, rfl, l, _, (k : Int), _, rfl, rfl, SqL.of (e03 _ _ hl), atI_nat v1, ?_⟩
      refine ⟨_, rfl, _, rfl, _, _, rfl, rfl, l, _, _, _, rfl, rfl, SqL.of (e03 _ _ hl), at_of (j := k + 1) (by omega) v2, c2, l2, rfl, e03 _ _ hc2, cl2.1, cl2.2.1, fun fl fs H4 e4 hf pf => ?_⟩
      refine in_L (e4 _ _ (e03 _ _ hc1)) hf pf ⟨_, rfl, ?_⟩
      refine ite2 (fun _ => ?_) (fun z => absurd (decide_eq_true yes) z)
      exact ⟨_, rfl, rfl, kQ _ (e03.trans e4)⟩
end
end T39

set_option Elab.async false
set_option linter.all false
set_option maxRecDepth 100000
set_option maxHeartbeats 1000000
set_option pp.maxSteps 60
/-! law. -/
namespace T39
open PySem L2
abbrev sLaw : Stmt := top 29
def spLaw (K : PySem.W.Frag) : Sp := fun vs H Q _ => ∃ (a : Addr) (ns : List Int), vs = [.ref a] ∧ SqL K H a (ns.map V.int) ∧ ns.length ≤ 63 ∧ ∀ H', Q (.bl true) H'
/-- what the law holds -/
structure LawH (CT r c l t p : Addr) (as : List Addr) (ll : List (List Int)) (H : Hp) : Prop where
  bag : BagAt H r c
  hl : H l = some (.lst (as.map V.ref))
  ht : H t = some (.tup (as.map V.ref))
  pt : PT2 H as ll
  tw : TowAt CT H p t
theorem LawH.ext {CT r c l t p : Addr} {as : List Addr} {ll : List (List Int)} {H H' : Hp} (e : Ext H H') (h : LawH CT r c l t p as ll H) : LawH CT r c l t p as ll H' :=
  ⟨(Go.of_ext h.bag e).1, e _ _ h.hl, e _ _ h.ht, PT2.mono (fun _ _ z => e _ _ z) h.pt, h.tw.ext e⟩
theorem LawH.go {CT r c l t p : Addr} {as : List Addr} {ll : List (List Int)} {H H' : Hp} (nl : l ≠ r ∧ l ≠ c) (g : Go r c H H') (h : LawH CT r c l t p as ll H) : LawH CT r c l t p as ll H' := by
  obtain ⟨dx, hp⟩ := h.tw
  obtain ⟨n, m⟩ := bag_no h.bag hp fun _ z => nomatch z
  exact ⟨g.1, g.2 _ _ nl.1 nl.2 h.hl, Go.tup h.bag g h.ht, PT2.mono (fun _ _ z => Go.tup h.bag g z) h.pt, dx, g.2 _ _ n m hp⟩
theorem LawH.tt {CT r c l t p : Addr} {as : List Addr} {ll : List (List Int)} {H : Hp} (h : LawH CT r c l t p as ll H) : TT H t ll := ⟨as, h.ht, h.pt⟩
/-- what isinstance and == ask of Tower -/
structure LawC (K : PySem.W.Frag) (CT : Addr) : Prop where
  nf : PySem.W.notFirst K CT (.type "tuple") = true
  kt : PySem.W.kitOne K (.type "tuple") (.ref CT) = some false
  ki : PySem.W.kitOne K (.ref CT) (.type "int") = some false
  kb : PySem.W.kitOne K (.ref CT) (.type "bool") = some false
  ku : PySem.W.kitOne K (.ref CT) (.type "tuple") = some false
/-! ### things -/
theorem thing_flat {K : PySem.W.Frag} {H : Hp} {x : V} (h : Th K H 2 x) (n : ∀ p, x ≠ .ref p) : Thing K H x := ⟨h, fun b xs e => absurd e (n b)⟩
theorem thing_obj {K : PySem.W.Frag} {H : Hp} {p : Addr} {o : HO} (h : Th K H 2 (.ref p)) (hp : H p = some o) (no : ∀ xs, o ≠ .tup xs) : Thing K H (.ref p) := ⟨h, fun b xs e hb => by
  cases e
  rw [hp] at hb
  cases hb
  exact absurd rfl (no xs)⟩
/-- a tuple of short tuples of ints -/
def Row (H : Hp) (x : V) : Prop := ∃ (q : Addr) (ns : List Int), x = .ref q ∧ H q = some (.tup (ns.map V.int)) ∧ ns.length ≤ 2
theorem Row.ext {H H' : Hp} {x : V} (e : Ext H H') (h : Row H x) : Row H' x := by
  obtain ⟨q, ns, ex, hq, l⟩ := h
  exact ⟨q, ns, ex, e _ _ hq, l⟩
theorem Row.put {H : Hp} {D : Addr} {o : HO} {xs : List V} {x : V} (hD : H D = some (.lst xs)) (h : Row H x) : Row (upd H D o) x := by
  obtain ⟨q, ns, ex, hq, l⟩ := h
  exact ⟨q, ns, ex, by rw [upd_ne (lst_ne hD hq)]; exact hq, l⟩
theorem thing_rows {K : PySem.W.Frag} {H : Hp} {b : Addr} {xs : List V} (hb : H b = some (.tup xs)) (l : xs.length ≤ 1000) (h : ∀ y ∈ xs, Row H y) : Thing K H (.ref b) := by
  refine ⟨Th.tup hb fun y hy => ?_, fun b' ys e hb' => ?_⟩
  · obtain ⟨q, ns, rfl, hq, _⟩ := h y hy
    refine Th.tup hq fun z hz => ?_
    obtain ⟨i, _, rfl⟩ := List.mem_map.mp hz
    exact Th.int i
  · cases e
    rw [hb] at hb'
    cases hb'
    refine ⟨l, fun z hz c zs e hc => ?_⟩
    obtain ⟨q, ns, rfl, hq, l2⟩ := h z hz
    cases e
    rw [hq] at hc
    cases hc
    rw [List.length_map]
    omega
theorem thing_parts {K : PySem.W.Frag} {H : Hp} {b : Addr} {xs : List V} (hb : H b = some (.tup xs)) (l : xs.length ≤ 1000) (h : ∀ y ∈ xs, Part K H y) : Thing K H (.ref b) := by
  refine ⟨Th.tup hb fun y hy => (h y hy).1, fun b' ys e hb' => ?_⟩
  cases e
  rw [hb] at hb'
  cases hb'
  exact ⟨l, fun z hz => (h z hz).2⟩
/-- all but the last -/
theorem cut_last {as : List Addr} : cutV (as.map V.ref) none (some (-1)) = (as.take (as.length - 1)).map V.ref := by
  have e : HT.sIx (as.map V.ref).length (as.map V.ref).length (some (-1)) = as.length - 1 := by
    show (if (-1 : Int) < 0 then ((-1 : Int) + ((as.map V.ref).length : Int)).toNat else min (-1 : Int).toNat (as.map V.ref).length) = _
    rw [if_pos (by decide), List.length_map]
    omega
  unfold cutV
  rw [e, HT.sIx_none, List.drop_zero, Nat.sub_zero, List.map_take]
theorem good_take {ll : List (List Int)} (n : Nat) (g : GoodT ll) : GoodT (ll.take n) := by
  unfold GoodT at g ⊢
  rw [← List.take_append_drop n ll] at g
  exact (gd_app.mp g).1
section
variable {P : Program} {w : World} {K : PySem.W.Frag} {mg : Str → Option Value} {base : Heap}
abbrev lawN : List Str := ["_law_script", "_law_bag_here", "_law_cells", "_law_thing", "_law_tower", "_law_other", "_law_turn", "_law_bent", "_law_points", "_law_odd", "_law_number", "_law_at"]
theorem scLaw : FnScope lawN ["_law_script"] (defScope sLaw) := ⟨rfl, rfl, rfl, by decide +kernel, rfl, by decide +kernel, by decide +kernel⟩
theorem ok_law {f fT fE CT CB : Addr} {fd fdT fdE : FuncData} (F : L2.Fun K "law" "law" sLaw f fd) (T : Gb mg) (W : TowK K mg CT) (IW : IsC K CT) (LC : LawC K CT) (A1 : TowF P w K mg base CT CB fT fE fdT fdE)
    (cB : Cal P w K mg base 1 "_law_bag" (spBag K) []) (cS : Cal P w K mg base 2 "_law_some" spSome []) (cG : Cal P w K mg base 3 "_law_grown" spGrown []) (cO : Cal P w K mg base 3 "_law_spoilt" (spSpoilt K) [])
    (cW : Cal P w K mg base 7 "_law_word" (spDue K) []) (cD : Cal P w K mg base 2 "_law_due" (spDue K) []) (cM : Cal P w K mg base 1 "_law_same" spSame []) (cX : Cal P w K mg base 8 "_law_exchanged_right" spXR []) : FnOk P w K mg base CX0 9 f fd ["_law_script"] (spLaw K) := by
  refine F.ok scLaw (fun vs H Q E h => ?_) (fun cdv A outer s H vs Q E hr h => ?_)
  · obtain ⟨a, ns, rfl, _⟩ := h
    rfl
  · obtain ⟨s0, ns, rfl, hS, hlen, kQ⟩ := h
    have hr6 : Room 6 _ := hr.mono (by decide)
    have hr1 : Room 1 _ := hr.mono (by decide)
    refine ⟨_, pss_cons (ps_set (i := 1) scLaw.nd rfl (Or.inl rfl) (C8.pe_c cB hr (by decide) (by rfl) (pa_cons (pv 0) pa_nil)))
      (pss_cons (ps_set (i := 2) scLaw.nd rfl (Or.inr rfl) (C8.pe_c cG hr (by decide) (by rfl) (pa_cons (pv 1) (pa_cons (C8.pe_c cS hr (by decide) (by rfl) (pa_cons (pv 1) (pa_cons (pe_lst (pa_cons pe_int (pa_cons pe_int (pa_cons pe_int (pa_cons pe_int (pa_cons pe_int (pa_cons pe_int pa_nil))))))) pa_nil))) pa_nil))))
      (pss_cons (ps_set (i := 3) scLaw.nd rfl (Or.inl rfl) (pe_callTy call_tuple_of (by rfl) T.tup (by decide +kernel) (pa_cons (pv 2) pa_nil)))
      (pss_cons (ps_par (i := 4) (j := 5) rfl scLaw.nd rfl rfl (by decide) rfl rfl (pa_cons (pe_makeS A1.mkC A1.ok hr6 (by rfl) W.mgC A1.bT (fun σ => passAt takes0 σ) (pa_cons (pv 3) pa_nil))
          (pa_cons (pe_makeS A1.mkC A1.ok hr6 (by rfl) W.mgC A1.bT (fun σ => passAt takes0 σ) (pa_cons (pe_callTy call_tuple_of (by rfl) T.tup (by decide +kernel) (pa_cons (pe_callTy call_list_of (by rfl) T.list (by decide +kernel) (pa_cons (pv 3) pa_nil)) pa_nil)) pa_nil)) pa_nil)) (by rfl))
      (C8.pss_cut (ps_if (PW.pt (pw_or (pt_cmpR (op_neD hr.units) (pe_fld (pv 4) rfl) (pv 3) (nomark _)) (pw_or (pt_not (pt_val (pe_callB call_isi (by rfl) T.isi (by decide +kernel) (pa_cons (pe_fld (pv 4) rfl) (pa_cons (pe_bltn (v := .ty "tuple") (by rfl) T.tup (by decide +kernel) rfl) pa_nil)))))
          (pw_or1 (pt_not (pt_cmpR (op_own A1.eq A1.hs A1.hf A1.bE hr1) (pv 4) (pv 5) (nomark _))))))) (pss_one (ps_ret pe_bl)) pss_nil)
      (C8.pss_cut (ps_if (PW.pt (pw_or (pt_cmpR (op_own A1.eq A1.hs A1.hf A1.bE hr1) (pv 4) (pv 3) (nomark _)) (pw_or (pt_cmpR (op_ownR A1.eq A1.hs A1.hf A1.bE hr1 A1.sub) (pv 3) (pv 4) (nomark _))
          (pw_or1 (PW.pt (pw_and (pt_cmpR op_gt (pe_callB call_len_seq (by rfl) T.len PySem.boot_len (pa_cons (pv 2) pa_nil)) pe_int (nomark _)) (pw_and1 (pt_cmpR (op_own A1.eq A1.hs A1.hf A1.bE hr1) (pv 4)
            (pe_makeS A1.mkC A1.ok hr6 (by rfl) W.mgC A1.bT (fun σ => passAt takes0 σ) (pa_cons (pe_slice sl_tupA (pv 3) po_none (po_some (pe_un un_neg pe_int))) pa_nil)) (nomark _))))))))) (pss_one (ps_ret pe_bl)) pss_nil)
      (C8.pss_cut (ps_for PassesOwn.never rfl (pi_range1 (by rfl) T.rng (pa_cons pe_int pa_nil)) (pg_name (i := 6) scLaw.nd rfl (Or.inl rfl))
        (pss_cons (ps_set (i := 7) scLaw.nd rfl (Or.inl rfl) (pe_callTy call_tuple_of (by rfl) T.tup (by decide +kernel) (pa_cons (C8.pe_c cO hr (by decide) (by rfl) (pa_cons (pv 1) (pa_cons (pv 2) pa_nil))) pa_nil)))
        (C8.pss_cut (ps_if (pt_not (pt_val (C8.pe_c cM hr (by decide) (by rfl) (pa_cons (C8.pe_c cW hr (by decide) (by rfl) (pa_cons (pv 7) pa_nil)) (pa_cons (C8.pe_c cD hr (by decide) (by rfl) (pa_cons (pv 7) pa_nil)) pa_nil))))) (pss_one (ps_ret pe_bl)) pss_nil)
        (pss_one (ps_if (PW.pt (pw_and (pt_cmpR op_isN (C8.pe_c cD hr (by decide) (by rfl) (pa_cons (pv 7) pa_nil)) pe_non (nomark _)) (pw_and1 (pt_cmpR op_ne (pe_cmpR (op_own A1.eq A1.hs A1.hf A1.bE hr1) (pe_makeS A1.mkC A1.ok hr6 (by rfl) W.mgC A1.bT (fun σ => passAt takes0 σ) (pa_cons (pv 7) pa_nil)) (pv 4) (nomark _))
            (pe_cmpR (op_eqD hr.units) (pv 7) (pv 3) (nomark _)) (nomark _))))) (pss_one (ps_ret pe_bl)) pss_nil)))))
      (pss_cons (ps_set (i := 8) scLaw.nd rfl (Or.inl rfl) (pe_op op_catA
          (pe_callTy call_tuple_of (by rfl) T.tup (by decide +kernel) (pa_cons (pe_lc (own := [("_law_number", 10)]) (g := gName 10) (tt := tYes) rfl scLaw.nd (pi_range1 (by rfl) T.rng (pa_cons pe_int pa_nil)) (blkOk_by (N := lawN) (sc := defScope sLaw) (by decide +kernel))
            (fun _ _ _ _ _ => pg_name (i := 10) scLaw.nd rfl (Or.inl rfl)) (fun _ _ _ _ _ => pts_nil) (fun _ _ _ _ _ => pe_tup (pa_cons (pv 10) pa_nil))) pa_nil))
          (pe_callTy call_tuple_of (by rfl) T.tup (by decide +kernel) (pa_cons (pe_lc (own := [("_law_number", 10)]) (g := gName 10) (tt := tYes) rfl scLaw.nd (pi_range2 (by rfl) T.rng (pa_cons pe_int (pa_cons pe_int pa_nil))) (blkOk_by (N := lawN) (sc := defScope sLaw) (by decide +kernel))
            (fun _ _ _ _ _ => pg_name (i := 10) scLaw.nd rfl (Or.inl rfl)) (fun _ _ _ _ _ => pts_nil) (fun _ _ _ _ _ => pe_tup (pa_cons pe_int (pa_cons (pv 10) pa_nil)))) pa_nil))))
      (pss_cons (ps_for PassesOwn.never rfl (pi_list (pe_lst (pa_cons (pe_callTy call_list_of (by rfl) T.list (by decide +kernel) (pa_cons (pv 2) pa_nil)) (pa_cons pe_non (pa_cons pe_int (pa_cons pe_str (pa_cons pe_dnewK (pa_cons (pe_disp (pps_cons pe_str pe_int pps_nil) rfl rfl (fun z => nomatch z) (by decide)) (pa_cons (pv 4)
            (pa_cons (pe_slice sl_tupA (pv 8) po_none (po_some pe_int)) (pa_cons (pe_slice sl_tupA (pv 8) po_none (po_some pe_int)) (pa_cons (pe_slice sl_tupA (pv 8) po_none (po_some pe_int)) (pa_cons (pe_tup pa_nil) (pa_cons (pe_lst (pa_cons (pe_tup pa_nil) pa_nil)) pa_nil)))))))))))))) (pg_name (i := 9) scLaw.nd rfl (Or.inl rfl))
        (pss_one (ps_if (pt_not (pt_val (C8.pe_c cM hr (by decide) (by rfl) (pa_cons (C8.pe_c cW hr (by decide) (by rfl) (pa_cons (pv 9) pa_nil)) (pa_cons (C8.pe_c cD hr (by decide) (by rfl) (pa_cons (pv 9) pa_nil)) pa_nil))))) (pss_one (ps_ret pe_bl)) pss_nil)))
      (pss_one (ps_ret (pe_callB (cr_all rfl) (by rfl) T.all (by decide +kernel) (pa_cons (pe_lc (own := [("_law_at", 11)]) (g := gName 11) (tt := tYes) rfl scLaw.nd (pi_range1 (by rfl) T.rng (pa_cons (pe_op op_sub (pe_callB call_len_seq (by rfl) T.len PySem.boot_len (pa_cons (pv 2) pa_nil)) pe_int) pa_nil)) (blkOk_by (N := lawN) (sc := defScope sLaw) (by decide +kernel))
          (fun _ _ _ _ _ => pg_name (i := 11) scLaw.nd rfl (Or.inl rfl)) (fun _ _ _ _ _ => pts_nil) (fun _ _ _ _ _ => C8.pe_c cX hr (by decide) (by rfl) (pa_cons (pv 2) (pa_cons (pv 11) pa_nil)))) pa_nil)))))))))))), ?_⟩
    refine ⟨_, rfl, s0, ns, rfl, hS, hlen, fun r c H1 e1 bag1 => ?_⟩
    -- the tower grown
    refine ⟨_, rfl, _, rfl, by show 6 ≤ sizeLine; decide, fun u nu => ?_⟩
    have x2 := Ext.upd (o := .lst [.int 1, .int 5, .int 9, .int 14, .int 20, .int 40]) nu
    have bag2 := (Go.of_ext bag1 x2).1
    have nuac := bag1.ne nu
    refine ⟨r, c, u, _, rfl, bag2, nuac.1, nuac.2, upd_same, (fun z => nomatch z), (by show 6 ≤ 1000; decide), fun x H2 hx g2 => ?_⟩
    obtain ⟨m, rfl, m1, m40⟩ : ∃ m : Nat, x = .int (m : Int) ∧ 1 ≤ m ∧ m ≤ 40 := by
      rcases List.mem_cons.mp hx with rfl | hx
      · exact ⟨1, rfl, by decide, by decide⟩
      rcases List.mem_cons.mp hx with rfl | hx
      · exact ⟨5, rfl, by decide, by decide⟩
      rcases List.mem_cons.mp hx with rfl | hx
      · exact ⟨9, rfl, by decide, by decide⟩
      rcases List.mem_cons.mp hx with rfl | hx
      · exact ⟨14, rfl, by decide, by decide⟩
      rcases List.mem_cons.mp hx with rfl | hx
      · exact ⟨20, rfl, by decide, by decide⟩
      · exact ⟨40, List.mem_singleton.mp hx, by decide, by decide⟩
    refine ⟨r, c, m, rfl, g2.1, m1, m40, fun l as ll H3 g3 nlr nlc hl pt gd l1 l40 => ?_⟩
    have nl : l ≠ r ∧ l ≠ c := ⟨nlr, nlc⟩
    have ln := PT2.len pt
    refine ⟨_, rfl, l, _, rfl, .inl ⟨SqL.of hl, fun t nt => ?_⟩⟩
    have x4 := Ext.upd (o := .tup (as.map V.ref)) nt
    have ht4 : (upd H3 t (.tup (as.map V.ref))) t = some (.tup (as.map V.ref)) := upd_same
    generalize upd H3 t (.tup (as.map V.ref)) = H4 at *
    have pt4 : PT2 H4 as ll := PT2.mono (fun _ _ z => x4 _ _ z) pt
    refine ⟨_, rfl, ?_⟩
    dsimp only [tNil]
    refine mk_tow ht4 pt4 l40 gd fun p H5 x5 tw5 => ?_
    have ht5 := x5 _ _ ht4
    refine ⟨_, rfl, t, _, rfl, .inr (SqT.of ht5), fun d nd => ?_⟩
    refine ⟨d, _, rfl, .inl ⟨SqL.of upd_same, fun t2 nt2 => ?_⟩⟩
    have x6 := (Ext.upd (o := .lst (as.map V.ref)) nd).trans (Ext.upd (o := .tup (as.map V.ref)) nt2)
    have ht26 : (upd (upd H5 d (.lst (as.map V.ref))) t2 (.tup (as.map V.ref))) t2 = some (.tup (as.map V.ref)) := upd_same
    generalize upd (upd H5 d (.lst (as.map V.ref))) t2 (.tup (as.map V.ref)) = H6 at *
    have pt6 : PT2 H6 as ll := PT2.mono (fun _ _ z => x6 _ _ (x5 _ _ z)) pt4
    refine mk_tow ht26 pt6 l40 gd fun o H7 x7 two => ?_
    refine ⟨_, _, rfl, ?_⟩
    have e37 := x4.trans (x5.trans (x6.trans x7))
    have L7 : LawH CT r c l t p as ll H7 := ⟨(Go.of_ext g3.1 e37).1, e37 _ _ hl, x7 _ _ (x6 _ _ ht5), PT2.mono (fun _ _ z => x7 _ _ z) pt6, tw5.ext (x6.trans x7)⟩
    have tt2 : TT H7 t2 ll := ⟨as, x7 _ _ ht26, L7.pt⟩
    clear hx g2 x2 bag2 nu nuac e1 bag1 ht4 pt4 x4 tw5 ht5 nd nt2 nt x5 x6 x7 ht26 pt6 e37 g3 hl pt
    -- both alike
    refine ⟨fun σ' H' => σ' = [some (.ref s0), some (.ref r), some (.ref l), some (.ref t), some (.ref p), some (.ref o), Option.none, Option.none, Option.none, Option.none, Option.none, Option.none] ∧ LawH CT r c l t p as ll H', ?_, ?_⟩
    · obtain ⟨dx, hp⟩ := L7.tw
      obtain ⟨dxo, ho⟩ := id two
      refine ⟨_, rfl, p, CT, dx, _, _, rfl, hp, W.cl, W.nC, cf_cells _, _, rfl, _, _, L7.tt.dp, L7.tt.dp, shaped_dT _, shaped_dT _, _, rfl, ?_⟩
      rw [eqv_dT, decide_eq_true rfl]
      refine iteF ?_
      refine ⟨_, rfl, p, CT, dx, _, _, rfl, hp, W.cl, W.nC, cf_cells _, _, .ty "tuple", .type "tuple", .type "tuple", true, rfl, .ty _, .base (.tup L7.ht), kit_ty (by decide +kernel), _, rfl, ?_⟩
      refine iteF ?_
      refine ⟨_, rfl, _, rfl, p, dx, _, .ref CT, rfl, hp, IW.ty ho, first_same, p, .ref o, t, ll, rfl, L7.tw, L7.tt, .inl ⟨o, t2, ll, rfl, two, tt2, ⟨_, rfl⟩, _, rfl, ?_⟩⟩
      rw [decide_eq_true (rfl : ll = ll)]
      exact iteF ⟨rfl, L7⟩
    rintro σ' H8 ⟨rfl, L8⟩
    clear two tt2 L7
    -- not alike to others
    refine ⟨fun σ' H' => σ' = [some (.ref s0), some (.ref r), some (.ref l), some (.ref t), some (.ref p), some (.ref o), Option.none, Option.none, Option.none, Option.none, Option.none, Option.none] ∧ LawH CT r c l t p as ll H', ?_, ?_⟩
    · obtain ⟨dx, hp⟩ := L8.tw
      refine ⟨_, rfl, _, rfl, p, dx, _, .type "tuple", rfl, hp, .base (.tup L8.ht), LC.nf, p, .ref t, t, ll, rfl, L8.tw, L8.tt, .inr ⟨.type "tuple", .base (.tup L8.ht), LC.kt, ⟨_, rfl⟩, _, rfl, ?_⟩⟩
      refine iteF ?_
      refine ⟨_, rfl, _, rfl, t, _, p, dx, _, rfl, L8.ht, rfl, hp, p, .ref t, t, ll, rfl, L8.tw, L8.tt, .inr ⟨.type "tuple", .base (.tup L8.ht), LC.kt, ⟨_, rfl⟩, _, rfl, ?_⟩⟩
      refine iteF ?_
      refine ⟨_, rfl, l, _, rfl, .inl (SqL.of L8.hl), _, _, rfl, rfl, _, rfl, ?_⟩
      refine ite2 (fun _ => ?_) (fun _ => iteF ⟨rfl, L8⟩)
      refine ⟨_, rfl, _, rfl, 1, rfl, -1, rfl, ?_⟩
      refine sl_any (K := K) (lo := none) (hi := some (-1)) L8.ht fun q H9 x9 hq => ?_
      rw [cut_last] at hq
      have L9 := L8.ext x9
      have pt9 : PT2 H9 (as.take (as.length - 1)) (ll.take (as.length - 1)) := p_take _ L9.pt
      refine mk_tow hq pt9 (by rw [List.length_take]; omega) (good_take _ gd) fun p2 H10 x10 tw2 => ?_
      have L10 := L9.ext x10
      obtain ⟨dx10, hp10⟩ := L10.tw
      obtain ⟨dx2, hp2⟩ := id tw2
      refine ⟨p, dx10, _, .ref CT, rfl, hp10, IW.ty hp2, first_same, p, .ref p2, t, ll, rfl, L10.tw, L10.tt, .inl ⟨p2, q, ll.take (as.length - 1), rfl, tw2, ⟨_, x10 _ _ hq, PT2.mono (fun _ _ z => x10 _ _ z) pt9⟩, ⟨_, rfl⟩, _, rfl, ?_⟩⟩
      have ne : ¬ ll = ll.take (as.length - 1) := fun z => by
        have := congrArg List.length z
        rw [List.length_take] at this
        omega
      rw [decide_eq_false ne]
      exact iteF ⟨rfl, L10⟩
    rintro σ' H9 ⟨rfl, L9⟩
    clear L8
    -- spoilt ones
    refine ⟨fun σ' H' => (∃ v6 v7 : Option V, σ' = [some (.ref s0), some (.ref r), some (.ref l), some (.ref t), some (.ref p), some (.ref o), v6, v7, Option.none, Option.none, Option.none, Option.none]) ∧ LawH CT r c l t p as ll H', ?_, ?_⟩
    · refine ⟨6, rfl, by decide, by decide, for_range (lo := 0) (n := 6) (fun _ σ' H' => (∃ v6 v7 : Option V, σ' = [some (.ref s0), some (.ref r), some (.ref l), some (.ref t), some (.ref p), some (.ref o), v6, v7, Option.none, Option.none, Option.none, Option.none]) ∧ LawH CT r c l t p as ll H') ⟨⟨_, _, rfl⟩, L9⟩ ?_ (fun σ' H' z => z)⟩
      rintro i σ' H' hi ⟨⟨v6, v7, rfl⟩, L⟩
      refine ⟨_, rfl, _, rfl, r, c, l, as, ll, rfl, L.bag, nl.1, nl.2, L.hl, L.pt, gd, l1, l40, fun q xs H10 g10 hq lx parts => ?_⟩
      have L10 := L.go nl g10
      refine ⟨q, xs, rfl, .inl ⟨SqL.of hq, fun b nb => ?_⟩⟩
      have x11 := Ext.upd (o := .tup xs) nb
      have hb : (upd H10 b (.tup xs)) b = some (.tup xs) := upd_same
      generalize upd H10 b (.tup xs) = H11 at *
      have L11 := L10.ext x11
      have ty : Thing K H11 (.ref b) := thing_parts hb (by omega) fun y hy => (parts y hy).keep x11
      refine ⟨fun σ' H' => σ' = [some (.ref s0), some (.ref r), some (.ref l), some (.ref t), some (.ref p), some (.ref o), some (.int (0 + (i : Int))), some (.ref b), Option.none, Option.none, Option.none, Option.none] ∧ Ext H11 H', ?_, ?_⟩
      · refine ⟨_, rfl, _, rfl, ty, fun H1 g e1 => ?_, fun v H1 d e1 => ?_⟩
        · exact ⟨_, rfl, _, rfl, ty.ext e1, fun H2 g2 e2 => ⟨.non, rfl, .inl rfl, _, rfl, iteF ⟨rfl, e1.trans e2⟩⟩, fun v H2 d e2 => ((d.back e1 ty).not_good g).elim⟩
        · refine ⟨_, rfl, _, rfl, ty.ext e1, fun H2 g e2 => (d.not_good (g.back e1 ty)).elim, fun u H2 d2 e2 => ?_⟩
          have eu := (d2.back e1 ty).uniq d
          subst eu
          exact ⟨u, rfl, .inr (due_int d), _, rfl, iteF ⟨rfl, e1.trans e2⟩⟩
      rintro σ' H12 ⟨rfl, e12⟩
      have ty12 := ty.ext e12
      have L12 := L11.ext e12
      refine ⟨_, rfl, _, rfl, ty12, fun H13 g e13 => ?_, fun v H13 d e13 => ?_⟩
      · refine ⟨rfl, _, rfl, ?_⟩
        refine ite2 (fun _ => ?_) (fun z => absurd (decide_eq_true rfl) z)
        obtain ⟨b', bs, kk, eb, hb', lb, pb, gb⟩ := g
        cases eb
        refine ⟨_, rfl, ?_⟩
        dsimp only [tNil]
        refine mk_tow (e13 _ _ hb') (PT2.mono (fun _ _ z => e13 _ _ z) pb) lb gb fun p2 H14 x14 tw2 => ?_
        have L14 := L12.ext (e13.trans x14)
        obtain ⟨dx, hp⟩ := L14.tw
        obtain ⟨dx2, hp2⟩ := id tw2
        have tt2 : TT H14 b kk := ⟨bs, x14 _ _ (e13 _ _ hb'), PT2.mono (fun _ _ z => x14 _ _ (e13 _ _ z)) pb⟩
        refine ⟨_, rfl, p2, dx2, _, .ref CT, rfl, hp2, IW.ty hp, first_same, p2, .ref p, b, kk, rfl, tw2, tt2, .inl ⟨p, t, ll, rfl, L14.tw, L14.tt, ⟨_, rfl⟩, ?_⟩⟩
        refine ⟨_, rfl, _, rfl, _, _, tt2.dp, L14.tt.dp, shaped_dT _, shaped_dT _, ?_⟩
        rw [eqv_dT]
        refine ⟨rfl, _, rfl, ?_⟩
        rw [decide_eq_true (rfl : V.bl (decide (kk = ll)) = V.bl (decide (kk = ll)))]
        exact iteF ⟨⟨_, _, rfl⟩, L14⟩
      · obtain ⟨i', rfl⟩ := due_int d
        refine ⟨rfl, _, rfl, ?_⟩
        exact ite2 (fun z => absurd (of_decide_eq_true z) (fun q => nomatch q)) (fun _ => iteF ⟨⟨_, _, rfl⟩, L12.ext e13⟩)
    rintro σ' H10 ⟨⟨v6, v7, rfl⟩, L10⟩
    -- many points
    refine ⟨30, rfl, by decide, by decide, fun D1 nD1 => ?_⟩
    refine lc_range (lo := 0) (n := 30) (fun i H' => Ext H10 H' ∧ ∃ zs, H' D1 = some (.lst zs) ∧ zs.length = i ∧ ∀ y ∈ zs, Row H' y) ⟨Ext.upd nD1, [], upd_same, rfl, (fun y h => by cases h)⟩ ?_ ?_
    · rintro i H' hi ⟨ex, zs, hD, lz, rows⟩
      refine ⟨rfl, tyes_in ⟨_, rfl, by show 1 ≤ sizeLine; decide, fun q nq => ⟨zs, Ext.upd nq _ _ hD, small1000 (by omega), fun b o eo => ?_, _, upd_same, by rw [List.length_append, lz]; rfl, fun y hy => ?_⟩⟩⟩
      · rw [upd_ne (ne_of_none eo nD1)]
        exact Ext.upd nq _ _ (ex _ _ eo)
      · rcases List.mem_append.mp hy with z | z
        · exact ((rows y z).ext (Ext.upd nq)).put (Ext.upd nq _ _ hD)
        · rw [List.mem_singleton.mp z]
          exact Row.put (Ext.upd nq _ _ hD) ⟨q, [0 + (i : Int)], rfl, upd_same, by show 1 ≤ 2; decide⟩
    rintro H11 ⟨e11, zs1, hD1, lz1, rows1⟩
    refine ⟨D1, _, rfl, .inl ⟨SqL.of hD1, fun t1 nt1 => ?_⟩⟩
    have y1 := Ext.upd (o := .tup zs1) nt1
    have ht1 : (upd H11 t1 (.tup zs1)) t1 = some (.tup zs1) := upd_same
    generalize upd H11 t1 (.tup zs1) = H12 at *
    refine ⟨1, 30, rfl, ⟨by decide, by decide, by decide, by decide⟩, fun D2 nD2 => ?_⟩
    refine lc_range (lo := 1) (n := 29) (fun i H' => Ext H12 H' ∧ ∃ zs, H' D2 = some (.lst zs) ∧ zs.length = i ∧ ∀ y ∈ zs, Row H' y) ⟨Ext.upd nD2, [], upd_same, rfl, (fun y h => by cases h)⟩ ?_ ?_
    · rintro i H' hi ⟨ex, zs, hD, lz, rows⟩
      refine ⟨rfl, tyes_in ⟨_, rfl, by show 2 ≤ sizeLine; decide, fun q nq => ⟨zs, Ext.upd nq _ _ hD, small1000 (by omega), fun b o eo => ?_, _, upd_same, by rw [List.length_append, lz]; rfl, fun y hy => ?_⟩⟩⟩
      · rw [upd_ne (ne_of_none eo nD2)]
        exact Ext.upd nq _ _ (ex _ _ eo)
      · rcases List.mem_append.mp hy with z | z
        · exact ((rows y z).ext (Ext.upd nq)).put (Ext.upd nq _ _ hD)
        · rw [List.mem_singleton.mp z]
          exact Row.put (Ext.upd nq _ _ hD) ⟨q, [0, 1 + (i : Int)], rfl, upd_same, by show 2 ≤ 2; decide⟩
    rintro H13 ⟨e13, zs2, hD2, lz2, rows2⟩
    refine ⟨D2, _, rfl, .inl ⟨SqL.of hD2, fun t2 nt2 => ?_⟩⟩
    have y2 := Ext.upd (o := .tup zs2) nt2
    refine cat_any (y2 _ _ (e13 _ _ ht1)) upd_same (by omega) fun t3 H14 x14 ht3 => ?_
    have L14 := L10.ext (e11.trans (y1.trans (e13.trans (y2.trans x14))))
    have rows : ∀ y ∈ zs1 ++ zs2, Row H14 y := fun y hy => by
      rcases List.mem_append.mp hy with z | z
      · exact (rows1 y z).ext (y1.trans (e13.trans (y2.trans x14)))
      · exact (rows2 y z).ext (y2.trans x14)
    have lz : (zs1 ++ zs2).length = 59 := by rw [List.length_append]; omega
    generalize zs1 ++ zs2 = zs at *
    clear rows1 rows2 hD1 hD2 ht1 y1 y2 e11 e13 x14 nt1 nt2 nD1 nD2 lz1 lz2 L9 L10
    -- odd things
    refine ⟨_, rfl, l, _, rfl, .inl (SqL.of L14.hl), fun d1 n1 d2 n2 d3 n3 => ⟨upd_same, [(.inr "cells", .int 1)], rfl, by decide, ?_⟩⟩
    rw [upd_upd]
    have w1 := Ext.upd (o := .lst (as.map V.ref)) n1
    have h1 : (upd H14 d1 (.lst (as.map V.ref))) d1 = some (.lst (as.map V.ref)) := upd_same
    generalize upd H14 d1 (.lst (as.map V.ref)) = G1 at *
    have w2 := Ext.upd (o := .dK []) n2
    have h2 : (upd G1 d2 (.dK [])) d2 = some (.dK []) := upd_same
    generalize upd G1 d2 (.dK []) = G2 at *
    have w3 := Ext.upd (o := .dK (mergeK [] [(.inr "cells", .int 1)])) n3
    have h3 : (upd G2 d3 (.dK (mergeK [] [(.inr "cells", .int 1)]))) d3 = some (.dK (mergeK [] [(.inr "cells", .int 1)])) := upd_same
    generalize upd G2 d3 (.dK (mergeK [] [(.inr "cells", .int 1)])) = G3 at *
    have w13 := w1.trans (w2.trans w3)
    refine ⟨_, rfl, _, rfl, 40, rfl, ?_⟩
    refine sl_any (K := K) (lo := none) (hi := some 40) (w13 _ _ ht3) fun d4 G4 w4 h4 => ?_
    refine ⟨_, rfl, 41, rfl, ?_⟩
    refine sl_any (K := K) (lo := none) (hi := some 41) (w4 _ _ (w13 _ _ ht3)) fun d5 G5 w5 h5 => ?_
    refine ⟨_, rfl, 12, rfl, ?_⟩
    refine sl_any (K := K) (lo := none) (hi := some 12) (w5 _ _ (w4 _ _ (w13 _ _ ht3))) fun d6 G6 w6 h6 => ?_
    have w16 := w13.trans (w4.trans (w5.trans w6))
    refine ⟨Nat.zero_le _, fun d7 n7 => ⟨Nat.zero_le _, fun d8 n8 => ⟨by show 1 ≤ sizeLine; decide, fun d9 n9 => ⟨by show 12 ≤ sizeLine; decide, fun u nu => ?_⟩⟩⟩⟩
    have w7 := Ext.upd (o := .tup []) n7
    have h7 : (upd G6 d7 (.tup [])) d7 = some (.tup []) := upd_same
    generalize upd G6 d7 (.tup []) = G7 at *
    have w8 := Ext.upd (o := .tup []) n8
    generalize upd G7 d8 (.tup []) = G8 at *
    have w9 := Ext.upd (o := .lst [.ref d8]) n9
    have h9 : (upd G8 d9 (.lst [.ref d8])) d9 = some (.lst [.ref d8]) := upd_same
    generalize upd G8 d9 (.lst [.ref d8]) = G9 at *
    have w69 := w7.trans (w8.trans w9)
    have w19 := w16.trans w69
    have LG := L14.ext w19
    obtain ⟨dxp, hp⟩ := LG.tw
    have short : ∀ {b : Addr} {o : Option Int} {G : Hp}, Ext H14 G → G b = some (.tup (cutV zs none o)) → Thing K G (.ref b) := fun e hb =>
      thing_rows hb (Nat.le_trans (cutV_length _ _ _) (by omega)) fun y hy => (rows y (cut_mem hy)).ext e
    have odds : ∀ y ∈ [V.ref d1, .non, .int 3, .str "", .ref d2, .ref d3, .ref p, .ref d4, .ref d5, .ref d6, .ref d7, .ref d9], Thing K G9 y := by
      intro y hy
      rcases List.mem_cons.mp hy with rfl | hy
      · exact thing_obj (Th.lst ((w2.trans (w3.trans (w4.trans (w5.trans (w6.trans w69))))) _ _ h1)) ((w2.trans (w3.trans (w4.trans (w5.trans (w6.trans w69))))) _ _ h1) fun _ z => nomatch z
      rcases List.mem_cons.mp hy with rfl | hy
      · exact thing_flat Th.non fun _ z => nomatch z
      rcases List.mem_cons.mp hy with rfl | hy
      · exact thing_flat (Th.int _) fun _ z => nomatch z
      rcases List.mem_cons.mp hy with rfl | hy
      · exact thing_flat (Th.str _) fun _ z => nomatch z
      rcases List.mem_cons.mp hy with rfl | hy
      · exact thing_obj (Th.dct ((w3.trans (w4.trans (w5.trans (w6.trans w69)))) _ _ h2)) ((w3.trans (w4.trans (w5.trans (w6.trans w69)))) _ _ h2) fun _ z => nomatch z
      rcases List.mem_cons.mp hy with rfl | hy
      · exact thing_obj (Th.dct ((w4.trans (w5.trans (w6.trans w69))) _ _ h3)) ((w4.trans (w5.trans (w6.trans w69))) _ _ h3) fun _ z => nomatch z
      rcases List.mem_cons.mp hy with rfl | hy
      · exact thing_obj (Th.plain (IW.ty hp) LC.ki LC.kb LC.ku fun a e => by cases e; exact ⟨_, hp, fun _ z => nomatch z⟩) hp fun _ z => nomatch z
      rcases List.mem_cons.mp hy with rfl | hy
      · exact short w19 ((w5.trans (w6.trans w69)) _ _ h4)
      rcases List.mem_cons.mp hy with rfl | hy
      · exact short w19 ((w6.trans w69) _ _ h5)
      rcases List.mem_cons.mp hy with rfl | hy
      · exact short w19 (w69 _ _ h6)
      rcases List.mem_cons.mp hy with rfl | hy
      · exact thing_rows ((w8.trans w9) _ _ h7) (Nat.zero_le _) fun y hy => by cases hy
      · rw [List.mem_singleton.mp hy]
        exact thing_obj (Th.lst h9) h9 fun _ z => nomatch z
    generalize hos : [V.ref d1, .non, .int 3, .str "", .ref d2, .ref d3, .ref p, .ref d4, .ref d5, .ref d6, .ref d7, .ref d9] = os at *
    have wu := Ext.upd (o := .lst os) nu
    have hu : (upd G9 u (.lst os)) u = some (.lst os) := upd_same
    have LU := LG.ext wu
    have oddU : ∀ y ∈ os, Thing K (upd G9 u (.lst os)) y := fun y hy => (odds y hy).ext wu
    generalize upd G9 u (.lst os) = U at *
    clear odds rows h1 h2 h3 h4 h5 h6 h7 h9 w1 w2 w3 w4 w5 w6 w7 w8 w9 w13 w16 w69 w19 n1 n2 n3 n7 n8 n9 nu short ht3 L14 hp wu LG
    refine ⟨u, rfl, ⟨_, SqL.of hu⟩, for_list (K := K) (a := u) (xs := os) (fun i σ' H' => (∃ v9 : Option V, σ' = [some (.ref s0), some (.ref r), some (.ref l), some (.ref t), some (.ref p), some (.ref o), v6, v7, some (.ref t3), v9, Option.none, Option.none]) ∧ Ext U H') ⟨⟨_, rfl⟩, Ext.rfl'⟩ (fun i σ' H' _ z => SqL.of (z.2 _ _ hu)) ?_ ?_⟩
    · rintro i y σ' H' hy ⟨⟨v9, rfl⟩, eU⟩
      have ty := (oddU y (List.mem_of_getElem? hy)).ext eU
      refine ⟨_, rfl, _, rfl, ty, fun H1 g e1 => ?_, fun v H1 d e1 => ?_⟩
      · exact ⟨_, rfl, _, rfl, ty.ext e1, fun H2 g2 e2 => ⟨.non, rfl, .inl rfl, _, rfl, iteF ⟨⟨_, rfl⟩, eU.trans (e1.trans e2)⟩⟩, fun v H2 d e2 => ((d.back e1 ty).not_good g).elim⟩
      · refine ⟨_, rfl, _, rfl, ty.ext e1, fun H2 g e2 => (d.not_good (g.back e1 ty)).elim, fun u H2 d2 e2 => ?_⟩
        have eu := (d2.back e1 ty).uniq d
        subst eu
        exact ⟨u, rfl, .inr (due_int d), _, rfl, iteF ⟨⟨_, rfl⟩, eU.trans (e1.trans e2)⟩⟩
    rintro σ' H15 ⟨⟨v9, rfl⟩, eU⟩
    have L15 := LU.ext eU
    clear oddU LU hu
    -- two neighbours exchanged
    have lm : (as.map V.ref).length = as.length := List.length_map ..
    refine ⟨_, rfl, l, _, rfl, .inl (SqL.of L15.hl), _, _, rfl, rfl, _, rfl, by omega, by omega, fun D nD => ?_⟩
    refine lc_range (lo := 0) (n := (((as.map V.ref).length : Int) - 1).toNat) (fun i H' => Ext H15 H' ∧ H' D = some (.lst ((List.replicate i true).map V.bl))) ⟨Ext.upd nD, upd_same⟩ ?_ ?_
    · rintro i H' hi ⟨ex, hD⟩
      have L16 := L15.ext ex
      refine ⟨rfl, tyes_in ⟨_, rfl, _, rfl, l, as, ll, i, by rw [Int.zero_add]; rfl, L16.hl, L16.pt, gd, l40, by omega, fun H'' e2 => ?_⟩⟩
      refine ⟨_, e2 _ _ hD, small1000 (by rw [List.length_map, List.length_replicate]; omega), fun b o eo => ?_, ?_⟩
      · rw [upd_ne (ne_of_none eo nD)]
        exact e2 _ _ (ex _ _ eo)
      · rw [upd_same, List.replicate_succ', List.map_append]
        rfl
    · rintro H' ⟨ex, hD⟩
      refine ⟨D, _, rfl, SqL.of hD, ?_⟩
      have e : ((List.replicate (((as.map V.ref).length : Int) - 1).toNat true).all id) = true := List.all_eq_true.mpr fun b hb => (List.mem_replicate.mp hb).2
      rw [e]
      exact kQ _
end
end T39

set_option Elab.async false
set_option linter.all false
set_option maxRecDepth 100000
set_option maxHeartbeats 8000000
namespace T39
open PySem L2
theorem exm_self {K : PySem.W.Frag} {S : Addr} (h1 : PySem.W.subIn K (.ref S) (.type "BaseException") = some true) (h2 : PySem.W.isClsIn K S = true) (h3 : PySem.W.typeIn K (.ref S) = some (.type "type")) (h4 : PySem.W.subIn K (.ref S) (.ref S) = some true) :
    PySem.W.exmOne K (.ref S) (.ref S) = some true := by
  have h2' : (PySem.W.clsIn K S).isSome = true := h2
  unfold PySem.W.exmOne PySem.W.kitCls
  simp only [h1, h2', h3, h4, beq_self_eq_true, Bool.and_self, if_true]
theorem kit_ref {K : PySem.W.Frag} {t : Value} {C : Addr} {b : Bool} (h2 : PySem.W.isClsIn K C = true) (h3 : PySem.W.typeIn K (.ref C) = some (.type "type")) (h4 : PySem.W.subIn K (.ref C) (.ref C) = some true) (h5 : PySem.W.subIn K t (.ref C) = some b) :
    PySem.W.kitOne K t (.ref C) = some b := by
  have h2' : (PySem.W.clsIn K C).isSome = true := h2
  unfold PySem.W.kitOne PySem.W.kitCls
  by_cases e : (t == .ref C) = true
  · have e' := beq_iff_eq.mp e
    subst e'
    rw [h4] at h5
    rw [if_pos e, ← h5]
  · rw [if_neg e]
    simp only [h2', h3, h5, beq_self_eq_true, Bool.and_self, if_true]
theorem kit_tyc {K : PySem.W.Frag} {C : Addr} {s : String} {b : Bool} (h : PySem.W.kitMeta s = true) (h5 : PySem.W.subIn K (.ref C) (.type s) = some b) : PySem.W.kitOne K (.ref C) (.type s) = some b := by
  unfold PySem.W.kitOne PySem.W.kitCls
  rw [if_neg (by intro z; exact nomatch beq_iff_eq.mp z)]
  simp only [h, h5, if_true]
theorem exm_ref {K : PySem.W.Frag} {t : Value} {S : Addr} {b : Bool} (h1 : PySem.W.subIn K (.ref S) (.type "BaseException") = some true) (h2 : PySem.W.isClsIn K S = true) (h3 : PySem.W.typeIn K (.ref S) = some (.type "type")) (h4 : PySem.W.subIn K t (.ref S) = some b) :
    PySem.W.exmOne K t (.ref S) = some b := by
  have h2' : (PySem.W.clsIn K S).isSome = true := h2
  unfold PySem.W.exmOne PySem.W.kitCls
  simp only [h1, h2', h3, h4, beq_self_eq_true, Bool.and_self, if_true]
theorem all_mk {l : PySem.W.OpenLaw} {w : World} {K : PySem.W.Frag} {h : Heap} {mg : Str → Option Value} {fa : Addr} {CT CB NX f1 f2 f13 f14 f15 f16 f18 f19 f20 f21 f22 f23 f24 f25 f26 f27 f28 f29 fT fE fB fI : Addr} (X : K.In h) (G : h.Ns mainGlobals mg) (hfa : mg "law" = some (.ref fa))
    {oc1 kV1 dc1 pm1 cd1 ct1 : Value} {od1 an1 : Option Addr} {sl1 : Array (Option Value)}
    {oc2 kV2 dc2 pm2 cd2 ct2 : Value} {od2 an2 : Option Addr} {sl2 : Array (Option Value)}
    {oc13 kV13 dc13 pm13 cd13 ct13 : Value} {od13 an13 : Option Addr} {sl13 : Array (Option Value)}
    {oc14 kV14 dc14 pm14 cd14 ct14 : Value} {od14 an14 : Option Addr} {sl14 : Array (Option Value)}
    {oc15 kV15 dc15 pm15 cd15 ct15 : Value} {od15 an15 : Option Addr} {sl15 : Array (Option Value)}
    {oc16 kV16 dc16 pm16 cd16 ct16 : Value} {od16 an16 : Option Addr} {sl16 : Array (Option Value)}
    {oc18 kV18 dc18 pm18 cd18 ct18 : Value} {od18 an18 : Option Addr} {sl18 : Array (Option Value)}
    {oc19 kV19 dc19 pm19 cd19 ct19 : Value} {od19 an19 : Option Addr} {sl19 : Array (Option Value)}
    {oc20 kV20 dc20 pm20 cd20 ct20 : Value} {od20 an20 : Option Addr} {sl20 : Array (Option Value)}
    {oc21 kV21 dc21 pm21 cd21 ct21 : Value} {od21 an21 : Option Addr} {sl21 : Array (Option Value)}
    {oc22 kV22 dc22 pm22 cd22 ct22 : Value} {od22 an22 : Option Addr} {sl22 : Array (Option Value)}
    {oc23 kV23 dc23 pm23 cd23 ct23 : Value} {od23 an23 : Option Addr} {sl23 : Array (Option Value)}
    {oc24 kV24 dc24 pm24 cd24 ct24 : Value} {od24 an24 : Option Addr} {sl24 : Array (Option Value)}
    {oc25 kV25 dc25 pm25 cd25 ct25 : Value} {od25 an25 : Option Addr} {sl25 : Array (Option Value)}
    {oc26 kV26 dc26 pm26 cd26 ct26 : Value} {od26 an26 : Option Addr} {sl26 : Array (Option Value)}
    {oc27 kV27 dc27 pm27 cd27 ct27 : Value} {od27 an27 : Option Addr} {sl27 : Array (Option Value)}
    {oc28 kV28 dc28 pm28 cd28 ct28 : Value} {od28 an28 : Option Addr} {sl28 : Array (Option Value)}
    {oc29 kV29 dc29 pm29 cd29 ct29 : Value} {od29 an29 : Option Addr} {sl29 : Array (Option Value)}
    {ocT kVT dcT pmT cdT ctT : Value} {odT anT : Option Addr} {slT : Array (Option Value)}
    {ocE kVE dcE pmE cdE ctE : Value} {odE anE : Option Addr} {slE : Array (Option Value)}
    {ocB kVB dcB pmB cdB ctB : Value} {odB anB : Option Addr} {slB : Array (Option Value)}
    {ocI kVI dcI pmI cdI ctI : Value} {odI anI : Option Addr} {slI : Array (Option Value)}
    {tMOST_CELLS}
    {tMOST_IN_CELL}
    {tMOST_NAME}
    {nmCB qCB : Str} {NCB : Addr} {bsCB bmCB : List Value} {snCB : List Str} {subCB : List Value} {abCB : Bool} {colCB : Option Bool} {ddCB : Option Addr} {m0CB m1CB m2CB m3CB m5CB : Option Value}
    {nmNX qNX : Str} {NNX : Addr} {bsNX bmNX : List Value} {snNX : List Str} {subNX : List Value} {abNX : Bool} {colNX : Option Bool} {ddNX : Option Addr} {m0NX m1NX m2NX m3NX m5NX : Option Value}
    (gCT : PySem.W.nsIn K mainGlobals "Tower" = some (some (.ref CT)))
    (gCB : PySem.W.nsIn K mainGlobals "BadTower" = some (some (.ref CB)))
    (gNX : PySem.W.nsIn K mainGlobals "NoExchange" = some (some (.ref NX)))
    (a1 : PySem.W.nsIn K mainGlobals "is_integer" = some (some (.ref f1)))
    (l1 : K.lookup f1 = some ⟨oc1, od1, .func (PySem.W.fnOf "is_integer" "is_integer" (defArgs sInteger) (defBody sInteger) (defScope sInteger) .none kV1 dc1 pm1 an1 cd1 ct1), sl1⟩)
    (c1 : PySem.W.codeIn K cd1 "is_integer" = true)
    (k1 : PySem.W.keepIn K (.ref f1) = true)
    (a2 : PySem.W.nsIn K mainGlobals "is_number" = some (some (.ref f2)))
    (l2 : K.lookup f2 = some ⟨oc2, od2, .func (PySem.W.fnOf "is_number" "is_number" (defArgs sNumber) (defBody sNumber) (defScope sNumber) .none kV2 dc2 pm2 an2 cd2 ct2), sl2⟩)
    (c2 : PySem.W.codeIn K cd2 "is_number" = true)
    (k2 : PySem.W.keepIn K (.ref f2) = true)
    (a13 : PySem.W.nsIn K mainGlobals "is_ascending" = some (some (.ref f13)))
    (l13 : K.lookup f13 = some ⟨oc13, od13, .func (PySem.W.fnOf "is_ascending" "is_ascending" (defArgs sAsc) (defBody sAsc) (defScope sAsc) .none kV13 dc13 pm13 an13 cd13 ct13), sl13⟩)
    (c13 : PySem.W.codeIn K cd13 "is_ascending" = true)
    (k13 : PySem.W.keepIn K (.ref f13) = true)
    (a14 : PySem.W.nsIn K mainGlobals "is_cell" = some (some (.ref f14)))
    (l14 : K.lookup f14 = some ⟨oc14, od14, .func (PySem.W.fnOf "is_cell" "is_cell" (defArgs sCell) (defBody sCell) (defScope sCell) .none kV14 dc14 pm14 an14 cd14 ct14), sl14⟩)
    (c14 : PySem.W.codeIn K cd14 "is_cell" = true)
    (k14 : PySem.W.keepIn K (.ref f14) = true)
    (a15 : PySem.W.nsIn K mainGlobals "faces" = some (some (.ref f15)))
    (l15 : K.lookup f15 = some ⟨oc15, od15, .func (PySem.W.fnOf "faces" "faces" (defArgs sFaces) (defBody sFaces) (defScope sFaces) .none kV15 dc15 pm15 an15 cd15 ct15), sl15⟩)
    (c15 : PySem.W.codeIn K cd15 "faces" = true)
    (k15 : PySem.W.keepIn K (.ref f15) = true)
    (a16 : PySem.W.nsIn K mainGlobals "exchanged" = some (some (.ref f16)))
    (l16 : K.lookup f16 = some ⟨oc16, od16, .func (PySem.W.fnOf "exchanged" "exchanged" (defArgs sExch) (defBody sExch) (defScope sExch) .none kV16 dc16 pm16 an16 cd16 ct16), sl16⟩)
    (c16 : PySem.W.codeIn K cd16 "exchanged" = true)
    (k16 : PySem.W.keepIn K (.ref f16) = true)
    (a18 : PySem.W.nsIn K mainGlobals "_law_bag" = some (some (.ref f18)))
    (l18 : K.lookup f18 = some ⟨oc18, od18, .func (PySem.W.fnOf "_law_bag" "_law_bag" (defArgs sBag) (defBody sBag) (defScope sBag) .none kV18 dc18 pm18 an18 cd18 ct18), sl18⟩)
    (c18 : PySem.W.codeIn K cd18 "_law_bag" = true)
    (k18 : PySem.W.keepIn K (.ref f18) = true)
    (a19 : PySem.W.nsIn K mainGlobals "_law_pick" = some (some (.ref f19)))
    (l19 : K.lookup f19 = some ⟨oc19, od19, .func (PySem.W.fnOf "_law_pick" "_law_pick" (defArgs sPick) (defBody sPick) (defScope sPick) .none kV19 dc19 pm19 an19 cd19 ct19), sl19⟩)
    (c19 : PySem.W.codeIn K cd19 "_law_pick" = true)
    (k19 : PySem.W.keepIn K (.ref f19) = true)
    (a20 : PySem.W.nsIn K mainGlobals "_law_some" = some (some (.ref f20)))
    (l20 : K.lookup f20 = some ⟨oc20, od20, .func (PySem.W.fnOf "_law_some" "_law_some" (defArgs sSome) (defBody sSome) (defScope sSome) .none kV20 dc20 pm20 an20 cd20 ct20), sl20⟩)
    (c20 : PySem.W.codeIn K cd20 "_law_some" = true)
    (k20 : PySem.W.keepIn K (.ref f20) = true)
    (a21 : PySem.W.nsIn K mainGlobals "_law_faces" = some (some (.ref f21)))
    (l21 : K.lookup f21 = some ⟨oc21, od21, .func (PySem.W.fnOf "_law_faces" "_law_faces" (defArgs sLFaces) (defBody sLFaces) (defScope sLFaces) .none kV21 dc21 pm21 an21 cd21 ct21), sl21⟩)
    (c21 : PySem.W.codeIn K cd21 "_law_faces" = true)
    (k21 : PySem.W.keepIn K (.ref f21) = true)
    (a22 : PySem.W.nsIn K mainGlobals "_law_grown" = some (some (.ref f22)))
    (l22 : K.lookup f22 = some ⟨oc22, od22, .func (PySem.W.fnOf "_law_grown" "_law_grown" (defArgs sGrown) (defBody sGrown) (defScope sGrown) .none kV22 dc22 pm22 an22 cd22 ct22), sl22⟩)
    (c22 : PySem.W.codeIn K cd22 "_law_grown" = true)
    (k22 : PySem.W.keepIn K (.ref f22) = true)
    (a23 : PySem.W.nsIn K mainGlobals "_law_is_cell" = some (some (.ref f23)))
    (l23 : K.lookup f23 = some ⟨oc23, od23, .func (PySem.W.fnOf "_law_is_cell" "_law_is_cell" (defArgs sLCell) (defBody sLCell) (defScope sLCell) .none kV23 dc23 pm23 an23 cd23 ct23), sl23⟩)
    (c23 : PySem.W.codeIn K cd23 "_law_is_cell" = true)
    (k23 : PySem.W.keepIn K (.ref f23) = true)
    (a24 : PySem.W.nsIn K mainGlobals "_law_due" = some (some (.ref f24)))
    (l24 : K.lookup f24 = some ⟨oc24, od24, .func (PySem.W.fnOf "_law_due" "_law_due" (defArgs sDue) (defBody sDue) (defScope sDue) .none kV24 dc24 pm24 an24 cd24 ct24), sl24⟩)
    (c24 : PySem.W.codeIn K cd24 "_law_due" = true)
    (k24 : PySem.W.keepIn K (.ref f24) = true)
    (a25 : PySem.W.nsIn K mainGlobals "_law_spoilt" = some (some (.ref f25)))
    (l25 : K.lookup f25 = some ⟨oc25, od25, .func (PySem.W.fnOf "_law_spoilt" "_law_spoilt" (defArgs sSpoilt) (defBody sSpoilt) (defScope sSpoilt) .none kV25 dc25 pm25 an25 cd25 ct25), sl25⟩)
    (c25 : PySem.W.codeIn K cd25 "_law_spoilt" = true)
    (k25 : PySem.W.keepIn K (.ref f25) = true)
    (a26 : PySem.W.nsIn K mainGlobals "_law_word" = some (some (.ref f26)))
    (l26 : K.lookup f26 = some ⟨oc26, od26, .func (PySem.W.fnOf "_law_word" "_law_word" (defArgs sWord) (defBody sWord) (defScope sWord) .none kV26 dc26 pm26 an26 cd26 ct26), sl26⟩)
    (c26 : PySem.W.codeIn K cd26 "_law_word" = true)
    (k26 : PySem.W.keepIn K (.ref f26) = true)
    (a27 : PySem.W.nsIn K mainGlobals "_law_same" = some (some (.ref f27)))
    (l27 : K.lookup f27 = some ⟨oc27, od27, .func (PySem.W.fnOf "_law_same" "_law_same" (defArgs sSame) (defBody sSame) (defScope sSame) .none kV27 dc27 pm27 an27 cd27 ct27), sl27⟩)
    (c27 : PySem.W.codeIn K cd27 "_law_same" = true)
    (k27 : PySem.W.keepIn K (.ref f27) = true)
    (a28 : PySem.W.nsIn K mainGlobals "_law_exchanged_right" = some (some (.ref f28)))
    (l28 : K.lookup f28 = some ⟨oc28, od28, .func (PySem.W.fnOf "_law_exchanged_right" "_law_exchanged_right" (defArgs sXR) (defBody sXR) (defScope sXR) .none kV28 dc28 pm28 an28 cd28 ct28), sl28⟩)
    (c28 : PySem.W.codeIn K cd28 "_law_exchanged_right" = true)
    (k28 : PySem.W.keepIn K (.ref f28) = true)
    (a29 : PySem.W.nsIn K mainGlobals "law" = some (some (.ref f29)))
    (l29 : K.lookup f29 = some ⟨oc29, od29, .func (PySem.W.fnOf "law" "law" (defArgs sLaw) (defBody sLaw) (defScope sLaw) .none kV29 dc29 pm29 an29 cd29 ct29), sl29⟩)
    (c29 : PySem.W.codeIn K cd29 "law" = true)
    (k29 : PySem.W.keepIn K (.ref f29) = true)
    (aT : PySem.W.findIn K (.ref CT) "__init__" = some (some (.ref fT)))
    (iT : PySem.W.isFn K (.ref fT) = true)
    (lT : K.lookup fT = some ⟨ocT, odT, .func (PySem.W.fnOf "__init__" "Tower.__init__" (defArgs sTowI) (defBody sTowI) (defScope sTowI) .none kVT dcT pmT anT cdT ctT), slT⟩)
    (cT : PySem.W.codeIn K cdT "Tower.__init__" = true)
    (kT : PySem.W.keepIn K (.ref fT) = true)
    (tT : PySem.W.typeIn K (.ref fT) = some (.type "function"))
    (aE : PySem.W.findIn K (.ref CT) "__eq__" = some (some (.ref fE)))
    (iE : PySem.W.isFn K (.ref fE) = true)
    (lE : K.lookup fE = some ⟨ocE, odE, .func (PySem.W.fnOf "__eq__" "Tower.__eq__" (defArgs sTowE) (defBody sTowE) (defScope sTowE) .none kVE dcE pmE anE cdE ctE), slE⟩)
    (cE : PySem.W.codeIn K cdE "Tower.__eq__" = true)
    (kE : PySem.W.keepIn K (.ref fE) = true)
    (tE : PySem.W.typeIn K (.ref fE) = some (.type "function"))
    (aB : PySem.W.findIn K (.ref CB) "__init__" = some (some (.ref fB)))
    (iB : PySem.W.isFn K (.ref fB) = true)
    (lB : K.lookup fB = some ⟨ocB, odB, .func (PySem.W.fnOf "__init__" "BadTower.__init__" (defArgs sBad) (defBody sBad) (defScope sBad) .none kVB dcB pmB anB cdB ctB), slB⟩)
    (cB : PySem.W.codeIn K cdB "BadTower.__init__" = true)
    (kB : PySem.W.keepIn K (.ref fB) = true)
    (tB : PySem.W.typeIn K (.ref fB) = some (.type "function"))
    (aI : PySem.W.findIn K (.ref NX) "__init__" = some (some (.ref fI)))
    (iI : PySem.W.isFn K (.ref fI) = true)
    (lI : K.lookup fI = some ⟨ocI, odI, .func (PySem.W.fnOf "__init__" "WebError.__init__" (defArgs sWE) (defBody sWE) (defScope sWE) .none kVI dcI pmI anI cdI ctI), slI⟩)
    (cI : PySem.W.codeIn K cdI "WebError.__init__" = true)
    (kI : PySem.W.keepIn K (.ref fI) = true)
    (tI : PySem.W.typeIn K (.ref fI) = some (.type "function"))
    (hn : PySem.W.specialIn K (.builtin "object.__class__") "__get__" = some (some (.builtin "getset_descriptor.__get__")))
    (ht : PySem.W.takesIn K (.builtin "object.__class__") = some true)
    (pgCT : PySem.W.plainGet K CT Str.empty = true)
    (hdCT : PySem.W.hasDictIn K CT = true)
    (poCT : PySem.W.plainOver K CT = true)
    (saCT : PySem.W.findIn K (.ref CT) "__setattr__" = some (some (.builtin "object.__setattr__")))
    (mkCT : PySem.W.makesIn K CT = true)
    (kcCT : PySem.W.keepIn K (.ref CT) = true)
    (haCT : PySem.W.findIn K (.ref CT) "__class__" = some (some (.builtin "object.__class__")))
    (hmCT : PySem.W.mroIn K CT (.type "object") = some true)
    (icCT : PySem.W.isClsIn K CT = true)
    (tcCT : PySem.W.typeIn K (.ref CT) = some (.type "type"))
    (scCT : PySem.W.subIn K (.ref CT) (.ref CT) = some true)
    (nCTcells : PySem.W.findIn K (.ref CT) "cells" = some none)
    (nCBindex : PySem.W.findIn K (.ref CB) "index" = some none)
    (vMOST_CELLS : PySem.W.nsIn K mainGlobals "MOST_CELLS" = some (some (.int 40 tMOST_CELLS)))
    (vMOST_IN_CELL : PySem.W.nsIn K mainGlobals "MOST_IN_CELL" = some (some (.int 4 tMOST_IN_CELL)))
    (vMOST_NAME : PySem.W.nsIn K mainGlobals "MOST_NAME" = some (some (.int 29 tMOST_NAME)))
    (xLCB : K.lookup CB = some (excClassObj nmCB qCB CB NCB bsCB bmCB true snCB subCB abCB colCB ddCB m0CB m1CB m2CB m3CB m5CB "ValueError.__new__"))
    (xbCB : PySem.HandSPX.refsVE bmCB = true)
    (seCB : PySem.W.findIn K (.ref CB) "__setattr__" = some (some (.builtin "object.__setattr__")))
    (keCB : PySem.W.keepIn K (.ref CB) = true)
    (heCB : PySem.W.hasDictIn K CB = true)
    (gaCB : PySem.W.findIn K (.ref CB) "__getattribute__" = some (some (.builtin "BaseException.__getattribute__")))
    (ggCB : PySem.W.findIn K (.ref CB) "__getattr__" = some none)
    (hxCB : PySem.W.findIn K (.ref CB) "__class__" = some (some (.builtin "object.__class__")))
    (myCB : PySem.W.mroIn K CB (.type "object") = some true)
    (exCB : PySem.W.subIn K (.ref CB) (.type "BaseException") = some true)
    (ieCB : PySem.W.isClsIn K CB = true)
    (teCB : PySem.W.typeIn K (.ref CB) = some (.type "type"))
    (ssCB : PySem.W.subIn K (.ref CB) (.ref CB) = some true)
    (xLNX : K.lookup NX = some (excClassObj nmNX qNX NX NNX bsNX bmNX true snNX subNX abNX colNX ddNX m0NX m1NX m2NX m3NX m5NX "ValueError.__new__"))
    (xbNX : PySem.HandSPX.refsVE bmNX = true)
    (seNX : PySem.W.findIn K (.ref NX) "__setattr__" = some (some (.builtin "object.__setattr__")))
    (keNX : PySem.W.keepIn K (.ref NX) = true)
    (heNX : PySem.W.hasDictIn K NX = true)
    (gaNX : PySem.W.findIn K (.ref NX) "__getattribute__" = some (some (.builtin "BaseException.__getattribute__")))
    (ggNX : PySem.W.findIn K (.ref NX) "__getattr__" = some none)
    (hxNX : PySem.W.findIn K (.ref NX) "__class__" = some (some (.builtin "object.__class__")))
    (myNX : PySem.W.mroIn K NX (.type "object") = some true)
    (exNX : PySem.W.subIn K (.ref NX) (.type "BaseException") = some true)
    (ieNX : PySem.W.isClsIn K NX = true)
    (teNX : PySem.W.typeIn K (.ref NX) = some (.type "type"))
    (ssNX : PySem.W.subIn K (.ref NX) (.ref NX) = some true)
    (sTu : PySem.W.subIn K (.ref CT) (.type "tuple") = some false)
    (sTi : PySem.W.subIn K (.ref CT) (.type "int") = some false)
    (sTb : PySem.W.subIn K (.ref CT) (.type "bool") = some false)
    (sUT : PySem.W.subIn K (.type "tuple") (.ref CT) = some false)
    (zlen : PySem.W.nsIn K mainGlobals "len" = some none)
    (zint : PySem.W.nsIn K mainGlobals "int" = some none)
    (zbool : PySem.W.nsIn K mainGlobals "bool" = some none)
    (zisinstance : PySem.W.nsIn K mainGlobals "isinstance" = some none)
    (ztuple : PySem.W.nsIn K mainGlobals "tuple" = some none)
    (zall : PySem.W.nsIn K mainGlobals "all" = some none)
    (zenumerate : PySem.W.nsIn K mainGlobals "enumerate" = some none)
    (zlist : PySem.W.nsIn K mainGlobals "list" = some none)
    (zrange : PySem.W.nsIn K mainGlobals "range" = some none)
    (zmin : PySem.W.nsIn K mainGlobals "min" = some none)
    (zmax : PySem.W.nsIn K mainGlobals "max" = some none)
    (zsorted : PySem.W.nsIn K mainGlobals "sorted" = some none)
    (zset : PySem.W.nsIn K mainGlobals "set" = some none)
    (zstr : PySem.W.nsIn K mainGlobals "str" = some none)
    (zabs : PySem.W.nsIn K mainGlobals "abs" = some none)
    (zValueError : PySem.W.nsIn K mainGlobals "ValueError" = some none)
    (zzip : PySem.W.nsIn K mainGlobals "zip" = some none) :
    ∃ fd : FuncData, (∀ (s : Shared) (v : Value), BindsTo s fd ⟨[v], []⟩ [("_law_script", v)]) ∧ ∀ base : Heap, K.In base → base.Ns mainGlobals mg → FnOk l.prog w K mg base CX0 9 fa fd ["_law_script"] (spLaw K) := by
  have e := hfa.symm.trans (PySem.W.mg_of X G a29)
  cases e
  have F1 := fun_mk (st := sInteger) l1 c1 k1
  have b1 := F1.binds (ps := ["thing"]) fun _ _ _ _ _ _ us hl => match us, hl with | [_], _ => rfl
  have F2 := fun_mk (st := sNumber) l2 c2 k2
  have b2 := F2.binds (ps := ["most", "thing"]) fun _ _ _ _ _ _ us hl => match us, hl with | [_, _], _ => rfl
  have F13 := fun_mk (st := sAsc) l13 c13 k13
  have b13 := F13.binds (ps := ["most", "thing"]) fun _ _ _ _ _ _ us hl => match us, hl with | [_, _], _ => rfl
  have F14 := fun_mk (st := sCell) l14 c14 k14
  have b14 := F14.binds (ps := ["thing"]) fun _ _ _ _ _ _ us hl => match us, hl with | [_], _ => rfl
  have F15 := fun_mk (st := sFaces) l15 c15 k15
  have b15 := F15.binds (ps := ["cell"]) fun _ _ _ _ _ _ us hl => match us, hl with | [_], _ => rfl
  have F16 := fun_mk (st := sExch) l16 c16 k16
  have b16 := F16.binds (ps := ["tower", "at"]) fun _ _ _ _ _ _ us hl => match us, hl with | [_, _], _ => rfl
  have F18 := fun_mk (st := sBag) l18 c18 k18
  have b18 := F18.binds (ps := ["_law_script"]) fun _ _ _ _ _ _ us hl => match us, hl with | [_], _ => rfl
  have F19 := fun_mk (st := sPick) l19 c19 k19
  have b19 := F19.binds (ps := ["_law_bag_here", "_law_many"]) fun _ _ _ _ _ _ us hl => match us, hl with | [_, _], _ => rfl
  have F20 := fun_mk (st := sSome) l20 c20 k20
  have b20 := F20.binds (ps := ["_law_bag_here", "_law_things"]) fun _ _ _ _ _ _ us hl => match us, hl with | [_, _], _ => rfl
  have F21 := fun_mk (st := sLFaces) l21 c21 k21
  have b21 := F21.binds (ps := ["_law_cell"]) fun _ _ _ _ _ _ us hl => match us, hl with | [_], _ => rfl
  have F22 := fun_mk (st := sGrown) l22 c22 k22
  have b22 := F22.binds (ps := ["_law_bag_here", "_law_many"]) fun _ _ _ _ _ _ us hl => match us, hl with | [_, _], _ => rfl
  have F23 := fun_mk (st := sLCell) l23 c23 k23
  have b23 := F23.binds (ps := ["_law_thing"]) fun _ _ _ _ _ _ us hl => match us, hl with | [_], _ => rfl
  have F24 := fun_mk (st := sDue) l24 c24 k24
  have b24 := F24.binds (ps := ["_law_thing"]) fun _ _ _ _ _ _ us hl => match us, hl with | [_], _ => rfl
  have F25 := fun_mk (st := sSpoilt) l25 c25 k25
  have b25 := F25.binds (ps := ["_law_bag_here", "_law_cells"]) fun _ _ _ _ _ _ us hl => match us, hl with | [_, _], _ => rfl
  have F26 := fun_mk (st := sWord) l26 c26 k26
  have b26 := F26.binds (ps := ["_law_thing"]) fun _ _ _ _ _ _ us hl => match us, hl with | [_], _ => rfl
  have F27 := fun_mk (st := sSame) l27 c27 k27
  have b27 := F27.binds (ps := ["_law_told", "_law_due_here"]) fun _ _ _ _ _ _ us hl => match us, hl with | [_, _], _ => rfl
  have F28 := fun_mk (st := sXR) l28 c28 k28
  have b28 := F28.binds (ps := ["_law_cells", "_law_at"]) fun _ _ _ _ _ _ us hl => match us, hl with | [_, _], _ => rfl
  have F29 := fun_mk (st := sLaw) l29 c29 k29
  have b29 := F29.binds (ps := ["_law_script"]) fun _ _ _ _ _ _ us hl => match us, hl with | [_], _ => rfl
  have FT := fun_mk (st := sTowI) lT cT kT
  have bT := FT.binds (ps := ["self", "cells"]) fun _ _ _ _ _ _ us hl => match us, hl with | [_, _], _ => rfl
  have FE := fun_mk (st := sTowE) lE cE kE
  have bE := FE.binds (ps := ["self", "other"]) fun _ _ _ _ _ _ us hl => match us, hl with | [_, _], _ => rfl
  have FB := fun_mk (st := sBad) lB cB kB
  have bB := FB.binds (ps := ["self", "index"]) fun _ _ _ _ _ _ us hl => match us, hl with | [_, _], _ => rfl
  have FI := fun_mk (st := sWE) lI cI kI
  have bI := FI.binds (ps := ["self"]) fun _ _ _ _ _ _ us hl => match us, hl with | [_], _ => rfl
  have nn : ∀ {x : Str}, PySem.W.nsIn K mainGlobals x = some none → mg x = none := fun z => PySem.W.mg_none_of X G z
  have T : Gb mg := ⟨nn zlen, nn zint, nn zbool, nn zisinstance, nn ztuple, nn zall, nn zenumerate, nn zlist, nn zrange, nn zmin, nn zmax, nn zsorted, nn zset, nn zstr, nn zabs, nn zValueError⟩
  have M : TowC mg := ⟨⟨tMOST_CELLS, PySem.W.mg_of X G vMOST_CELLS⟩, ⟨tMOST_IN_CELL, PySem.W.mg_of X G vMOST_IN_CELL⟩, ⟨tMOST_NAME, PySem.W.mg_of X G vMOST_NAME⟩, nn zzip⟩
  have clT : Cls K CT := ⟨pgCT, hdCT, poCT, saCT⟩
  have W : TowK K mg CT := ⟨clT, nCTcells, PySem.W.mg_of X G gCT⟩
  have IW : IsC K CT := ⟨clT, haCT, hn, ht, hmCT⟩
  have LC : LawC K CT := ⟨by unfold PySem.W.notFirst; rw [sUT]; rfl, kit_ref icCT tcCT scCT sUT, kit_tyc (by decide +kernel) sTi, kit_tyc (by decide +kernel) sTb, kit_tyc (by decide +kernel) sTu⟩
  have B : BadC K mg CB fB := ⟨⟨⟨nmCB, qCB, NCB, bsCB, bmCB, snCB, subCB, abCB, colCB, ddCB, m0CB, m1CB, m2CB, m3CB, m5CB, xLCB, xbCB⟩, seCB, exCB, teCB, keCB⟩, aB, tB, PySem.W.mg_of X G gCB, nCBindex⟩
  have R : WordT K CB := ⟨⟨gaCB, ggCB, exCB, heCB⟩, exm_self exCB ieCB teCB ssCB⟩
  have N : ErrC K mg "NoExchange" NX fI := ⟨⟨⟨nmNX, qNX, NNX, bsNX, bmNX, snNX, subNX, abNX, colNX, ddNX, m0NX, m1NX, m2NX, m3NX, m5NX, xLNX, xbNX⟩, seNX, exNX, teNX, keNX⟩, aI, tI, PySem.W.mg_of X G gNX, ⟨ieNX, gaNX, ggNX, exNX, hxNX, hn, ht, myNX⟩⟩
  have MT : Mk K CT fT := ⟨mkCT, aT, iT, kcCT⟩
  refine ⟨PySem.W.fnOf "law" "law" (defArgs sLaw) (defBody sLaw) (defScope sLaw) .none kV29 dc29 pm29 an29 cd29 ct29, fun s v => .of_eq rfl, fun base _ _ => ?_⟩
  have cInt : Cal l.prog w K mg base 1 "is_integer" (spInteger K) [] := ⟨⟨f1, _, _, [], ok_integer F1 T, PySem.W.mg_of X G a1, k1, b1, .nil⟩⟩
  have cNum : Cal l.prog w K mg base 2 "is_number" (spNumber K) [] := ⟨⟨f2, _, _, [], ok_number F2 cInt, PySem.W.mg_of X G a2, k2, b2, .nil⟩⟩
  have cAsc : Cal l.prog w K mg base 3 "is_ascending" (spAsc K) [] := ⟨⟨f13, _, _, [], ok_asc F13 T M cNum, PySem.W.mg_of X G a13, k13, b13, .nil⟩⟩
  have cCell : Cal l.prog w K mg base 4 "is_cell" (spCell K) [] := ⟨⟨f14, _, _, [], ok_cell F14 T M cAsc, PySem.W.mg_of X G a14, k14, b14, .nil⟩⟩
  have cFac : Cal l.prog w K mg base 1 "faces" spFaces [] := ⟨⟨f15, _, _, [], ok_faces F15 T, PySem.W.mg_of X G a15, k15, b15, .nil⟩⟩
  have GI : FnOk l.prog w K mg base CX0 1 fI _ ["self"] spF0 := ok_we FI
  have GB : FnOk l.prog w K mg base CX0 1 fB _ ["self", "index"] (spBad CB) := ok_bad FB B
  have GT : FnOk l.prog w K mg base (L2.CX l.prog w) 5 fT _ ["self", "cells"] (spTow K CT CB) := ok_tow FT T M W B GB bB cCell cFac
  have GE : FnOk l.prog w K mg base CX0 1 fE _ ["self", "other"] (spEqT K CT) := ok_towE FE T W IW
  have GX : FnOk l.prog w K mg base (L2.CX l.prog w) 7 f16 _ ["tower", "at"] (spExch K CT NX) := ok_exch F16 T W N GI bI cNum cFac MT GT bT
  have A1 : TowF l.prog w K mg base CT CB fT fE _ _ := ⟨MT, GT, bT, GE, aE, iE, bE, sTu⟩
  have X1 : ExchC l.prog w K mg base CT NX f16 _ := ⟨GX, PySem.W.mg_of X G a16, k16, b16, PySem.W.mg_of X G gNX, exm_self exNX ieNX teNX ssNX⟩
  have cBag : Cal l.prog w K mg base 1 "_law_bag" (spBag K) [] := ⟨⟨f18, _, _, [], ok_bag F18 T, PySem.W.mg_of X G a18, k18, b18, .nil⟩⟩
  have cPick : Cal l.prog w K mg base 1 "_law_pick" spPick [] := ⟨⟨f19, _, _, [], ok_pick F19 ⟨T.len, T.int⟩, PySem.W.mg_of X G a19, k19, b19, .nil⟩⟩
  have cSome : Cal l.prog w K mg base 2 "_law_some" spSome [] := ⟨⟨f20, _, _, [], ok_some F20 ⟨T.len, T.int⟩ cPick, PySem.W.mg_of X G a20, k20, b20, .nil⟩⟩
  have cLF : Cal l.prog w K mg base 1 "_law_faces" spFaces [] := ⟨⟨f21, _, _, [], ok_lfaces F21 T, PySem.W.mg_of X G a21, k21, b21, .nil⟩⟩
  have cGr : Cal l.prog w K mg base 3 "_law_grown" spGrown [] := ⟨⟨f22, _, _, [], ok_grown F22 T cPick cSome cLF, PySem.W.mg_of X G a22, k22, b22, .nil⟩⟩
  have cLC : Cal l.prog w K mg base 1 "_law_is_cell" (spCell K) [] := ⟨⟨f23, _, _, [], ok_lcell F23 T, PySem.W.mg_of X G a23, k23, b23, .nil⟩⟩
  have cDue : Cal l.prog w K mg base 2 "_law_due" (spDue K) [] := ⟨⟨f24, _, _, [], ok_due F24 T cLC cLF, PySem.W.mg_of X G a24, k24, b24, .nil⟩⟩
  have cSp : Cal l.prog w K mg base 3 "_law_spoilt" (spSpoilt K) [] := ⟨⟨f25, _, _, [], ok_spoilt F25 T cPick cSome, PySem.W.mg_of X G a25, k25, b25, .nil⟩⟩
  have cWd : Cal l.prog w K mg base 7 "_law_word" (spDue K) [] := ⟨⟨f26, _, _, [], ok_word F26 W B R MT GT bT, PySem.W.mg_of X G a26, k26, b26, .nil⟩⟩
  have cSm : Cal l.prog w K mg base 1 "_law_same" spSame [] := ⟨⟨f27, _, _, [], ok_same F27 T, PySem.W.mg_of X G a27, k27, b27, .nil⟩⟩
  have cXR : Cal l.prog w K mg base 8 "_law_exchanged_right" spXR [] := ⟨⟨f28, _, _, [], ok_xr F28 T W IW A1 X1 cLF, PySem.W.mg_of X G a28, k28, b28, .nil⟩⟩
  exact ok_law F29 T W IW LC A1 cBag cSome cGr cSp cWd cDue cSm cXR
theorem walk {l : PySem.W.OpenLaw} {q : Program} {loose : List Str} {XP : (Str → Option Value) → Heap → Prop} {YP : World → Heap → Prop} {d : DefRec} {K : Params → PySem.W.Frag} (hn : l.most = some 63) (hdf : d.params.defaults = [])
    (hY : ∀ (w : World) (h : Heap), YP w h → (K w.params).In h)
    (F : ∀ (w : World) (mg : Str → Option Value) (fa : Addr) (h : Heap), (K w.params).In h → h.Ns mainGlobals mg → mg d.name = some (.ref fa) →
      ∃ fd : FuncData, (∀ (s : Shared) (u : Value), BindsTo s fd ⟨[u], []⟩ [("_law_script", u)]) ∧ ∀ base : Heap, (K w.params).In base → base.Ns mainGlobals mg → FnOk l.prog w (K w.params) mg base CX0 9 fa fd ["_law_script"] (spLaw (K w.params))) :
    PySem.W.WalkO q loose XP YP l.row.toRowW d [] (fun f vs => PySem.call f vs) :=
  L2.walk_of (n := 63) (k := 9) (x := "_law_script") (CX := fun _ => CX0) (sp := fun w => spLaw (K w.params)) hn (by decide) hdf ⟨rfl, by decide, by decide⟩ hY F (fun _ _ a ns hl _ hS => ⟨a, ns, rfl, hS, hl, fun _ => rfl⟩) fun _ _ _ _ _ z => z
end T39

set_option Elab.async false
set_option linter.all false
open PySem PySem.W PyProof.Rows
set_option maxRecDepth 100000 in
set_option maxHeartbeats 0 in
theorem PySem.Challenge.cw_mapwebs_k39_towers_judged_holds : PySem.Challenge.rw_mapwebs_k39_towers_judged.Holds := by
  w_on; o_law; k_head; (case hw => w_witness2)
  k_fill
  refine T39.walk (l := PySem.Challenge.rw_mapwebs_k39_towers_judged) rfl rfl (fun w h Y => PySem.W.kIn_of Y) ?F
  case F =>
    intro w mg fa h KX G hmg
    refine' T39.all_mk KX G hmg ?gCT ?gCB ?gNX ?a1 ?l1 ?c1 ?k1 ?a2 ?l2 ?c2 ?k2 ?a13 ?l13 ?c13 ?k13 ?a14 ?l14 ?c14 ?k14 ?a15 ?l15 ?c15 ?k15 ?a16 ?l16 ?c16 ?k16 ?a18 ?l18 ?c18 ?k18 ?a19 ?l19 ?c19 ?k19 ?a20 ?l20 ?c20 ?k20 ?a21 ?l21 ?c21 ?k21 ?a22 ?l22 ?c22 ?k22 ?a23 ?l23 ?c23 ?k23 ?a24 ?l24 ?c24 ?k24 ?a25 ?l25 ?c25 ?k25 ?a26 ?l26 ?c26 ?k26 ?a27 ?l27 ?c27 ?k27 ?a28 ?l28 ?c28 ?k28 ?a29 ?l29 ?c29 ?k29 ?aT ?iT ?lT ?cT ?kT ?tT ?aE ?iE ?lE ?cE ?kE ?tE ?aB ?iB ?lB ?cB ?kB ?tB ?aI ?iI ?lI ?cI ?kI ?tI ?hn ?ht ?pgCT ?hdCT ?poCT ?saCT ?mkCT ?kcCT ?haCT ?hmCT ?icCT ?tcCT ?scCT ?nCTcells ?nCBindex ?vMOST_CELLS ?vMOST_IN_CELL ?vMOST_NAME ?xLCB ?xbCB ?seCB ?keCB ?heCB ?gaCB ?ggCB ?hxCB ?myCB ?exCB ?ieCB ?teCB ?ssCB ?xLNX ?xbNX ?seNX ?keNX ?heNX ?gaNX ?ggNX ?hxNX ?myNX ?exNX ?ieNX ?teNX ?ssNX ?sTu ?sTi ?sTb ?sUT ?zlen ?zint ?zbool ?zisinstance ?ztuple ?zall ?zenumerate ?zlist ?zrange ?zmin ?zmax ?zsorted ?zset ?zstr ?zabs ?zValueError ?zzip
    (case gCT => k_is)
    (case gCB => k_is)
    (case gNX => k_is)
    (case a1 => k_is)
    (case l1 => k_is)
    (case c1 => k_is)
    (case k1 => k_is)
    (case a2 => k_is)
    (case l2 => k_is)
    (case c2 => k_is)
    (case k2 => k_is)
    (case a13 => k_is)
    (case l13 => k_is)
    (case c13 => k_is)
    (case k13 => k_is)
    (case a14 => k_is)
    (case l14 => k_is)
    (case c14 => k_is)
    (case k14 => k_is)
    (case a15 => k_is)
    (case l15 => k_is)
    (case c15 => k_is)
    (case k15 => k_is)
    (case a16 => k_is)
    (case l16 => k_is)
    (case c16 => k_is)
    (case k16 => k_is)
    (case a18 => k_is)
    (case l18 => k_is)
    (case c18 => k_is)
    (case k18 => k_is)
    (case a19 => k_is)
    (case l19 => k_is)
    (case c19 => k_is)
    (case k19 => k_is)
    (case a20 => k_is)
    (case l20 => k_is)
    (case c20 => k_is)
    (case k20 => k_is)
    (case a21 => k_is)
    (case l21 => k_is)
    (case c21 => k_is)
    (case k21 => k_is)
    (case a22 => k_is)
    (case l22 => k_is)
    (case c22 => k_is)
    (case k22 => k_is)
    (case a23 => k_is)
    (case l23 => k_is)
    (case c23 => k_is)
    (case k23 => k_is)
    (case a24 => k_is)
    (case l24 => k_is)
    (case c24 => k_is)
    (case k24 => k_is)
    (case a25 => k_is)
    (case l25 => k_is)
    (case c25 => k_is)
    (case k25 => k_is)
    (case a26 => k_is)
    (case l26 => k_is)
    (case c26 => k_is)
    (case k26 => k_is)
    (case a27 => k_is)
    (case l27 => k_is)
    (case c27 => k_is)
    (case k27 => k_is)
    (case a28 => k_is)
    (case l28 => k_is)
    (case c28 => k_is)
    (case k28 => k_is)
    (case a29 => k_is)
    (case l29 => k_is)
    (case c29 => k_is)
    (case k29 => k_is)
    (case aT => k_is)
    (case iT => k_is)
    (case lT => k_is)
    (case cT => k_is)
    (case kT => k_is)
    (case tT => k_is)
    (case aE => k_is)
    (case iE => k_is)
    (case lE => k_is)
    (case cE => k_is)
    (case kE => k_is)
    (case tE => k_is)
    (case aB => k_is)
    (case iB => k_is)
    (case lB => k_is)
    (case cB => k_is)
    (case kB => k_is)
    (case tB => k_is)
    (case aI => k_is)
    (case iI => k_is)
    (case lI => k_is)
    (case cI => k_is)
    (case kI => k_is)
    (case tI => k_is)
    (case hn => k_is)
    (case ht => k_is)
    (case pgCT => k_is)
    (case hdCT => k_is)
    (case poCT => k_is)
    (case saCT => k_is)
    (case mkCT => k_is)
    (case kcCT => k_is)
    (case haCT => k_is)
    (case hmCT => k_is)
    (case icCT => k_is)
    (case tcCT => k_is)
    (case scCT => first | rfl | k_is)
    (case nCTcells => k_is)
    (case nCBindex => k_is)
    (case vMOST_CELLS => k_is)
    (case vMOST_IN_CELL => k_is)
    (case vMOST_NAME => k_is)
    (case xLCB => k_is)
    (case xbCB => decide +kernel)
    (case seCB => k_is)
    (case keCB => k_is)
    (case heCB => k_is)
    (case gaCB => k_is)
    (case ggCB => k_is)
    (case hxCB => k_is)
    (case myCB => k_is)
    (case exCB => k_is)
    (case ieCB => k_is)
    (case teCB => k_is)
    (case ssCB => first | rfl | k_is)
    (case xLNX => k_is)
    (case xbNX => decide +kernel)
    (case seNX => k_is)
    (case keNX => k_is)
    (case heNX => k_is)
    (case gaNX => k_is)
    (case ggNX => k_is)
    (case hxNX => k_is)
    (case myNX => k_is)
    (case exNX => k_is)
    (case ieNX => k_is)
    (case teNX => k_is)
    (case ssNX => first | rfl | k_is)
    (case sTu => k_is)
    (case sTi => k_is)
    (case sTb => k_is)
    (case sUT => k_is)
    (case zlen => k_is)
    (case zint => k_is)
    (case zbool => k_is)
    (case zisinstance => k_is)
    (case ztuple => k_is)
    (case zall => k_is)
    (case zenumerate => k_is)
    (case zlist => k_is)
    (case zrange => k_is)
    (case zmin => k_is)
    (case zmax => k_is)
    (case zsorted => k_is)
    (case zset => k_is)
    (case zstr => k_is)
    (case zabs => k_is)
    (case zValueError => k_is)
    (case zzip => k_is)
