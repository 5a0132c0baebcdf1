import PyProof.Rows.All
import Wide.All
import OpenK.AllK
import Wide.FinOn
import HandS.ForMost
import HandS.Codes
import PySem.Challenge.RW_mapwebs_k44_towers_refused
import HandS.IsInst
import HandS.OwnEq
import KE.GoesMore
import HandS.Iter
import HandS.ForExc
import HandS.ExcInit
import HandS.ExcField
import HandS.ExcValue
import KE.KExcIs
import HandS.TupAny
import HandS.Zip
import HandS.Style
import HandS.TryMany
import PyProof.P3In
import HandS.Deep
import HandS.Walk
import HandS.DictComp
import HandS.More
import HandS.Strs
import HandS.TupMul
import PyProof.EnumMake
import PyProof.StrOps2
import HandS.Lambda
import HandS.Conv
import HandS.Sort
import HandS.EndTab
import KE.KNestM
set_option Elab.async false
set_option linter.all false
set_option maxRecDepth 100000
set_option maxHeartbeats 4000000
set_option pp.maxSteps 60
namespace V44
open PySem L2
def top (i : Nat) : Stmt := PySem.Challenge.pw_mapwebs_k44_towers_refused.main.body.getD i (.Pass ⟨0, 0, 0, 0⟩)
abbrev sBag : Stmt := top 62
abbrev sPick : Stmt := top 63
abbrev sSome : Stmt := top 64
theorem upd_upd {H : Hp} {a : Addr} {o u : HO} : upd (upd H a o) a u = upd H a u := by
  funext b
  by_cases h : b = a
  · rw [h, upd_same, upd_same]
  · rw [upd_ne h, upd_ne h, upd_ne h]
/-- the bag stands at a, its great numbers at c -/
def BagAt (H : Hp) (a c : Addr) : Prop := ∃ (ns : List Int) (z m n : Int), H a = some (.lst [.ref c, .int z, .int m, .int n]) ∧ H c = some (.lst (ns.map V.int))
theorem BagAt.neq {H : Hp} {a c : Addr} (x : BagAt H a c) : c ≠ a := by
  obtain ⟨ns, z, m, n, h1, h2⟩ := x
  exact ne_of h2 h1 (by intro q; cases ns <;> cases q)
/-- a step that changes nothing but the bag, and makes new things -/
structure Go (a c : Addr) (H H' : Hp) : Prop where
  bag : BagAt H' a c
  keep : ∀ b o, b ≠ a → b ≠ c → H b = some o → H' b = some o
theorem Go.trans {a c : Addr} {H H1 H2 : Hp} (x : Go a c H H1) (y : Go a c H1 H2) : Go a c H H2 := ⟨y.1, fun b o n m e => y.2 b o n m (x.2 b o n m e)⟩
theorem Go.refl {a c : Addr} {H : Hp} (x : BagAt H a c) : Go a c H H := ⟨x, fun _ _ _ _ e => e⟩
theorem BagAt.ne {H : Hp} {a c : Addr} (x : BagAt H a c) {b : Addr} (h : H b = none) : b ≠ a ∧ b ≠ c := by
  obtain ⟨ns, z, m, n, h1, h2⟩ := x
  exact ⟨(ne_of_none h1 h).symm, (ne_of_none h2 h).symm⟩
theorem Go.of_ext {a c : Addr} {H H' : Hp} (x : BagAt H a c) (e : ∀ b o, H b = some o → H' b = some o) : Go a c H H' := by
  obtain ⟨ns, z, m, n, h1, h2⟩ := x
  exact ⟨⟨ns, z, m, n, e _ _ h1, e _ _ h2⟩, fun b o _ _ h => e b o h⟩
theorem Go.new {a c : Addr} {H : Hp} (x : BagAt H a c) {b : Addr} {o : HO} (h : H b = none) : Go a c H (upd H b o) := Go.of_ext x fun d u e => by rw [upd_ne (ne_of_none e h)]; exact e
/-- a store at a thing that is new since -/
theorem Go.put {a c d : Addr} {H H' : Hp} {o : HO} (p : BagAt H a c) (g : Go a c H H') (nd : H d = none) : Go a c H (upd H' d o) := by
  obtain ⟨h1, h2⟩ := p.ne nd
  obtain ⟨ns, z, m, n, h3, h4⟩ := g.1
  exact ⟨⟨ns, z, m, n, by rw [upd_ne h1.symm]; exact h3, by rw [upd_ne h2.symm]; exact h4⟩, fun b o' nb nc hb => by rw [upd_ne (ne_of_none hb nd)]; exact g.2 b o' nb nc hb⟩
theorem bag_no {H : Hp} {a c b : Addr} {o : HO} (p : BagAt H a c) (h : H b = some o) (no : ∀ xs, o ≠ .lst xs) : b ≠ a ∧ b ≠ c := by
  obtain ⟨ns, z, m, n, h1, h2⟩ := p
  refine ⟨fun e => ?_, fun e => ?_⟩
  · rw [e, h1] at h
    cases h
    exact no _ rfl
  · rw [e, h2] at h
    cases h
    exact no _ rfl
theorem Go.tup {a c b : Addr} {H H' : Hp} {xs : List V} (p : BagAt H a c) (g : Go a c H H') (h : H b = some (.tup xs)) : H' b = some (.tup xs) := g.2 _ _ (bag_no p h fun _ z => nomatch z).1 (bag_no p h fun _ z => nomatch z).2 h
def spBag (K : PySem.W.Frag) : Sp := fun vs H Q _ => ∃ (s : Addr) (ns : List Int), vs = [.ref s] ∧ SqL K H s (ns.map V.int) ∧ ns.length ≤ 63 ∧ ∀ (r c : Addr) (H' : Hp), (∀ b o, H b = some o → H' b = some o) → BagAt H' r c → Q (.ref r) H'
def spPick : Sp := fun vs H Q _ => ∃ (a c : Addr) (m : Int), vs = [.ref a, .int m] ∧ BagAt H a c ∧ 0 < m ∧ m < 1000000 ∧ ∀ (r : Int) (H' : Hp), 0 ≤ r → r < m → Go a c H H' → Q (.int r) H'
def spSome : Sp := fun vs H Q _ => ∃ (a c l : Addr) (xs : List V), vs = [.ref a, .ref l] ∧ BagAt H a c ∧ l ≠ a ∧ l ≠ c ∧ H l = some (.lst xs) ∧ xs ≠ [] ∧ xs.length ≤ 1000 ∧ ∀ (x : V) (H' : Hp), x ∈ xs → Go a c H H' → Q x H'
structure Bl (mg : Str → Option Value) : Prop where
  len : mg "len" = none
  int : mg "int" = none
theorem tyes_in {σ : L2.St} {H : Hp} {te : TE} {R : V → Hp → Prop} {N : Hp → Prop} (h : te σ H R) : tYes σ H (fun b H3 => if b = true then te σ H3 R else N H3) := by
  show (if true = true then te σ H R else N H)
  rw [if_pos rfl]
  exact h
section
variable {P : Program} {w : World} {K : PySem.W.Frag} {mg : Str → Option Value} {base : Heap}
theorem scPick : FnScope ["_law_bag_here", "_law_many", "_law_number"] ["_law_bag_here", "_law_many"] (defScope sPick) := ⟨rfl, rfl, rfl, by decide +kernel, rfl, by decide +kernel, by decide +kernel⟩
theorem seq0 {n : Nat} (h : 0 < n) : seqIndex? 0 n = some 0 := by
  unfold seqIndex?
  simp only [show ¬ ((0 : Int) < 0) by decide, if_false]
  rw [if_pos (by simp; omega)]
  rfl
theorem ix0 {n : Nat} (h : 0 < n) : ixN n 0 = some 0 := by
  unfold ixN
  rw [if_pos (by decide), if_pos (by omega)]
  rfl
theorem ok_pick {f : Addr} {fd : FuncData} (F : Fun K "_law_pick" "_law_pick" sPick f fd) (T : Bl mg) : FnOk P w K mg base CX0 1 f fd ["_law_bag_here", "_law_many"] spPick := by
  refine F.ok scPick (fun vs H Q E h => ?_) (fun cdv A outer s H vs Q E hr h => ?_)
  · obtain ⟨a, c, m, rfl, _⟩ := h
    rfl
  · obtain ⟨a, c, m, rfl, bag, hm, hm2, k⟩ := h
    obtain ⟨ns, z, ln, n, h1, h2⟩ := id bag
    have hca := bag.neq
    refine ⟨_, pss_cons (ps_if (pt_cmpR op_eq (pe_ix ix_list (pv 0) pe_int (fun _ _ => rfl)) pe_int (nomark _)) (pss_one (ps_ret pe_int)) pss_nil)
      (pss_cons (ps_if (pt_cmpR op_gt (pe_callB call_len_seq (by rfl) T.len PySem.boot_len (pa_cons (pe_ix ix_list (pv 0) pe_int (fun _ _ => rfl)) pa_nil)) pe_int (nomark _))
        (pss_cons (ps_set (i := 2) scPick.nd rfl (Or.inl rfl) (pe_ix ix_list (pe_ix ix_list (pv 0) pe_int (fun _ _ => rfl)) pe_int (fun _ _ => rfl)))
        (pss_cons (ps_asg (pe_op op_fdiv (pv 2) (pv 1)) (pg_sub (pe_ix ix_list (pv 0) pe_int (fun _ _ => rfl)) pe_int set_list))
        (pss_cons (ps_if (pt_cmpR op_lt (pv 2) (pv 1) (nomark _)) (pss_one (ps_expr (pe_bm PySem.F.plainAttrs_list PySem.F.slot_list_pop PySem.F.type_list_pop mt_popAt (pe_ix ix_list (pv 0) pe_int (fun _ _ => rfl)) (pa_cons pe_int pa_nil)))) pss_nil)
        (pss_one (ps_ret (pe_op op_mod (pe_callTy call_int1 (by rfl) T.int (by decide +kernel) (pa_cons (pv 2) pa_nil)) (pv 1))))))) pss_nil)
      (pss_cons (ps_asg (pe_op op_add (pe_ix ix_list (pv 0) pe_int (fun _ _ => rfl)) pe_int) (pg_sub (pv 0) pe_int set_list))
      (pss_cons (ps_set (i := 2) scPick.nd rfl (Or.inl rfl) (pe_op op_mod (pe_callTy call_int1 (by rfl) T.int (by decide +kernel) (pa_cons (pe_op op_add (pe_op op_mul (pe_op op_add (pe_ix ix_list (pv 0) pe_int (fun _ _ => rfl)) (pe_op op_mul pe_int (pe_ix ix_list (pv 0) pe_int (fun _ _ => rfl)))) pe_int) pe_int) pa_nil)) pe_int))
      (pss_cons (ps_set (i := 2) scPick.nd rfl (Or.inl rfl) (pe_op op_mod (pe_callTy call_int1 (by rfl) T.int (by decide +kernel) (pa_cons (pe_op op_add (pe_op op_mul (pv 2) (pe_op op_add (pe_op op_fdiv (pv 2) pe_int) pe_int)) (pe_ix ix_list (pv 0) pe_int (fun _ _ => rfl))) pa_nil)) pe_int))
      (pss_cons (ps_asg (pe_op op_mod (pe_callTy call_int1 (by rfl) T.int (by decide +kernel) (pa_cons (pe_op op_add (pe_ix ix_list (pv 0) pe_int (fun _ _ => rfl)) (pv 2)) pa_nil)) pe_int) (pg_sub (pv 0) pe_int set_list))
      (pss_one (ps_ret (pe_op op_mod (pe_callTy call_int1 (by rfl) T.int (by decide +kernel) (pa_cons (pe_op op_fdiv (pv 2) pe_int) pa_nil)) (pv 1))))))))), ?_⟩
    refine ⟨_, rfl, _, _, _, _, rfl, rfl, SqL.of h1, rfl, rfl, _, rfl, ?_⟩
    refine ite2 (fun _ => k 0 H (by decide) hm (Go.refl bag)) (fun _ => ?_)
    refine ⟨_, rfl, _, _, _, _, rfl, rfl, SqL.of h1, rfl, c, _, rfl, .inl (SqL.of h2), _, _, rfl, rfl, _, rfl, ?_⟩
    refine ite2 (fun e => ?_) (fun _ => ?_)
    · have pos : 0 < ns.length := by
        have e' := of_decide_eq_true e
        rw [List.length_map] at e'
        omega
      match ns, pos with
      | x :: ns, _ =>
        refine ⟨_, rfl, _, _, _, _, rfl, rfl, SqL.of h1, rfl, c, _, 0, .int x, rfl, rfl, SqL.of h2, at_of (j := 0) rfl rfl, ?_⟩
        refine ⟨_, rfl, _, rfl, _, _, rfl, rfl, ⟨hm, by omega⟩, _, rfl, _, _, _, _, rfl, rfl, SqL.of h1, rfl, c, _, 0, 0, rfl, rfl, h2, ix0 (Nat.succ_pos _), ?_⟩
        have e1 : (List.map V.int (x :: ns)).set 0 (V.int (x / m)) = (x / m :: ns).map V.int := rfl
        have ha1 : (upd H c (.lst ((x / m :: ns).map V.int))) a = some (.lst [.ref c, .int z, .int ln, .int n]) := by rw [upd_ne hca.symm]; exact h1
        refine ⟨_, rfl, _, rfl, _, _, rfl, rfl, _, rfl, ?_⟩
        have fin : ∀ ys : List Int, Go a c H (upd H c (.lst (ys.map V.int))) := fun ys => ⟨⟨ys, z, ln, n, by rw [upd_ne hca.symm]; exact h1, upd_same⟩, fun b o _ nc hb => by rw [upd_ne nc]; exact hb⟩
        refine ite2 (fun _ => ?_) (fun _ => ?_)
        · refine ⟨_, rfl, _, _, _, _, rfl, rfl, SqL.of ha1, rfl, .inl ⟨rfl, _, SqL.of upd_same⟩, c, _, 0, 0, .int (x / m), rfl, rfl, upd_same, by decide, by decide, seq0 (Nat.succ_pos _), rfl, ?_⟩
          refine ⟨_, rfl, .inl ⟨_, rfl, _, rfl, _, _, rfl, rfl, hm, ?_⟩⟩
          rw [upd_upd]
          exact k _ _ (Int.emod_nonneg _ (by omega)) (Int.emod_lt_of_pos _ hm) (fin ns)
        · refine ⟨_, rfl, .inl ⟨_, rfl, _, rfl, _, _, rfl, rfl, hm, ?_⟩⟩
          exact k _ _ (Int.emod_nonneg _ (by omega)) (Int.emod_lt_of_pos _ hm) (fin (x / m :: ns))
    · have fin : ∀ z' n' : Int, Go a c H (upd H a (.lst [.ref c, .int z', .int ln, .int n'])) := fun z' n' => ⟨⟨ns, z', ln, n', upd_same, by rw [upd_ne hca]; exact h2⟩, fun b o na _ hb => by rw [upd_ne na]; exact hb⟩
      refine ⟨_, rfl, _, _, _, _, rfl, rfl, SqL.of h1, rfl, _, _, rfl, rfl, _, rfl, _, _, _, _, rfl, rfl, h1, rfl, ?_⟩
      refine ⟨_, rfl, _, _, _, _, rfl, rfl, SqL.of upd_same, rfl, _, rfl, _, _, _, _, rfl, rfl, SqL.of upd_same, rfl, _, _, rfl, rfl, .inl (by decide), _, _, rfl, rfl, _, _, rfl, rfl, .inr (by decide), _, _, rfl, rfl, .inl ⟨_, rfl, _, _, rfl, rfl, (by show (0 : Int) < 2147483647; decide), ?_⟩⟩
      have b1 := Int.emod_nonneg ((z + 7919 * (n + 1)) * 48271 + 11) (show (2147483647 : Int) ≠ 0 by decide)
      have b2 := Int.emod_lt_of_pos ((z + 7919 * (n + 1)) * 48271 + 11) (show (0 : Int) < 2147483647 by decide)
      refine ⟨_, rfl, _, rfl, _, _, rfl, rfl, ⟨by decide, by decide⟩, _, _, rfl, rfl, _, _, rfl, rfl, .inl ⟨by omega, by omega⟩, _, rfl, _, _, _, _, rfl, rfl, SqL.of upd_same, rfl, _, _, rfl, rfl, .inl ⟨_, rfl, _, _, rfl, rfl, (by show (0 : Int) < 2147483399; decide), ?_⟩⟩
      generalize ((z + 7919 * (n + 1)) * 48271 + 11) % 2147483647 = y1 at *
      refine ⟨_, rfl, _, _, _, _, rfl, rfl, SqL.of upd_same, rfl, _, rfl, _, _, rfl, rfl, .inl ⟨_, rfl, _, _, rfl, rfl, (by show (0 : Int) < 2147483629; decide), _, rfl, _, _, _, _, rfl, rfl, upd_same, rfl, ?_⟩⟩
      refine ⟨_, rfl, _, _, rfl, rfl, ⟨by decide, by decide⟩, .inl ⟨_, rfl, _, rfl, _, _, rfl, rfl, hm, ?_⟩⟩
      rw [upd_upd]
      exact k _ _ (Int.emod_nonneg _ (by omega)) (Int.emod_lt_of_pos _ hm) (fin _ _)
theorem scSome : FnScope ["_law_bag_here", "_law_things"] ["_law_bag_here", "_law_things"] (defScope sSome) := ⟨rfl, rfl, rfl, by decide +kernel, rfl, by decide +kernel, by decide +kernel⟩
theorem ok_some {f : Addr} {fd : FuncData} (F : Fun K "_law_some" "_law_some" sSome f fd) (T : Bl mg) (cD : C8.Cal P w K mg base 1 "_law_pick" spPick []) : FnOk P w K mg base CX0 2 f fd ["_law_bag_here", "_law_things"] spSome := by
  refine F.ok scSome (fun vs H Q E h => ?_) (fun cdv A outer s H vs Q E hr h => ?_)
  · obtain ⟨a, c, l, xs, rfl, _⟩ := h
    rfl
  · obtain ⟨a, c, l, xs, rfl, bag, na, nc, hl, ne, len, k⟩ := h
    refine ⟨_, pss_one (ps_ret (pe_ix ix_list (pv 1) (C8.pe_c cD hr (by decide) (by rfl) (pa_cons (pv 0) (pa_cons (pe_callB call_len_seq (by rfl) T.len PySem.boot_len (pa_cons (pv 1) pa_nil)) pa_nil))) (fun _ _ => rfl))), ?_⟩
    have pos : 0 < xs.length := List.length_pos_iff.mpr ne
    refine ⟨_, rfl, _, rfl, _, rfl, l, xs, rfl, .inl (SqL.of hl), a, c, _, rfl, bag, by omega, by omega, fun r H' h0 hlt go => ?_⟩
    have lt : r.toNat < xs.length := by omega
    refine ⟨l, xs, r, xs[r.toNat], rfl, rfl, SqL.of (go.2 _ _ na nc hl), at_of (j := r.toNat) (by omega) (List.getElem?_eq_getElem lt), ?_⟩
    exact k _ _ (List.getElem_mem lt) go
end
end V44

set_option Elab.async false
set_option linter.all false
set_option maxRecDepth 100000
set_option maxHeartbeats 4000000
set_option pp.maxSteps 60
namespace V44
open PySem L2
abbrev sInteger : Stmt := top 2
abbrev sNumber : Stmt := top 3
/-- built-ins that the text leaves as they are -/
structure Gb (mg : Str → Option Value) : Prop where
  len : mg "len" = none
  int : mg "int" = none
  bool : mg "bool" = none
  isi : mg "isinstance" = none
  tup : mg "tuple" = none
  all : mg "all" = none
  enum : mg "enumerate" = none
  list : mg "list" = none
  rng : mg "range" = none
  min : mg "min" = none
  max : mg "max" = none
  sorted : mg "sorted" = none
  set : mg "set" = none
  str : mg "str" = none
  abs : mg "abs" = none
  ve : mg "ValueError" = none
/-- what is expected of a caller of a plain def -/
abbrev Cal := @C8.Cal
def isI : V → Bool | .int _ => true | _ => false
def isB : V → Bool | .bl _ => true | _ => false
/-- a thing, as isinstance sees it; of a tuple also its items, n deep -/
def Th (K : PySem.W.Frag) (H : Hp) : Nat → V → Prop
  | n, x => ∃ t, TyX K H x t ∧ PySem.W.kitOne K t (.type "int") = some (isI x || isB x) ∧ PySem.W.kitOne K t (.type "bool") = some (isB x) ∧
    ((PySem.W.kitOne K t (.type "tuple") = some false ∧ ∀ a, x = .ref a → ∃ o, H a = some o ∧ ∀ xs, o ≠ .tup xs) ∨ (PySem.W.kitOne K t (.type "tuple") = some true ∧ ∃ a xs, x = .ref a ∧ H a = some (.tup xs) ∧
      match n with | 0 => True | m + 1 => ∀ y ∈ xs, Th K H m y))
theorem Th.zero {K : PySem.W.Frag} {H : Hp} {n : Nat} {x : V} (h : Th K H n x) : Th K H 0 x := by
  unfold Th at h ⊢
  obtain ⟨t, a, b, c, d⟩ := h
  refine ⟨t, a, b, c, ?_⟩
  rcases d with d | ⟨d, a, xs, e, f, _⟩
  · exact .inl d
  · exact .inr ⟨d, a, xs, e, f, True.intro⟩
def numV (m : Int) : V → Bool
  | .int i => decide (0 ≤ i) && decide (i ≤ m)
  | _ => false
theorem numV_true {m : Int} {x : V} : numV m x = true ↔ ∃ i, x = .int i ∧ 0 ≤ i ∧ i ≤ m := by
  cases x <;> simp [numV]
theorem TyOf.ext {K : PySem.W.Frag} {H H' : Hp} {x : V} {t : Value} (h : TyOf K H x t) (e : Ext H H') : TyOf K H' x t := by
  cases h with
  | non => exact .non
  | bl x => exact .bl x
  | int i => exact .int i
  | str x => exact .str x
  | flt x => exact .flt x
  | lst h => exact .lst (e _ _ h)
  | frz h => exact .frz (e _ _ h)
  | tup h => exact .tup (e _ _ h)
  | dK h => exact .dK (e _ _ h)
  | dT h => exact .dT (e _ _ h)
  | ins h c a b d f => exact .ins (e _ _ h) c a b d f
theorem TyX.ext {K : PySem.W.Frag} {H H' : Hp} {x : V} {t : Value} (h : TyX K H x t) (e : Ext H H') : TyX K H' x t := by
  cases h with
  | base h => exact .base (TyOf.ext h e)
  | byt b => exact .byt b
  | set h => exact .set (e _ _ h)
  | kList h c => exact .kList h c
  | kTuple h c => exact .kTuple h c
  | kDict h c => exact .kDict h c
  | fTuple h => exact .fTuple (e _ _ h)
  | fDict h => exact .fDict (e _ _ h)
theorem Th.ext {K : PySem.W.Frag} {H H' : Hp} (e : Ext H H') : ∀ {n : Nat} {x : V}, Th K H n x → Th K H' n x
  | 0, x, h => by
    unfold Th at h ⊢
    obtain ⟨t, a, b, c, d⟩ := h
    refine ⟨t, TyX.ext a e, b, c, ?_⟩
    rcases d with ⟨d, f⟩ | ⟨d, a, xs, g, f, _⟩
    · exact .inl ⟨d, fun a q => let ⟨o, h1, h2⟩ := f a q; ⟨o, e _ _ h1, h2⟩⟩
    · exact .inr ⟨d, a, xs, g, e _ _ f, True.intro⟩
  | n + 1, x, h => by
    unfold Th at h ⊢
    obtain ⟨t, a, b, c, d⟩ := h
    refine ⟨t, TyX.ext a e, b, c, ?_⟩
    rcases d with ⟨d, f⟩ | ⟨d, a, xs, g, f, i⟩
    · exact .inl ⟨d, fun a q => let ⟨o, h1, h2⟩ := f a q; ⟨o, e _ _ h1, h2⟩⟩
    · exact .inr ⟨d, a, xs, g, e _ _ f, fun y hy => Th.ext e (i y hy)⟩
def spInteger (K : PySem.W.Frag) : Sp := fun vs H Q _ => ∃ x : V, vs = [x] ∧ Th K H 0 x ∧ Q (.bl (isI x)) H
def spNumber (K : PySem.W.Frag) : Sp := fun vs H Q _ => ∃ (m : Int) (x : V), vs = [.int m, x] ∧ Th K H 0 x ∧ Q (.bl (numV m x)) H
section
variable {P : Program} {w : World} {K : PySem.W.Frag} {mg : Str → Option Value} {base : Heap}
theorem scInt : FnScope ["thing"] ["thing"] (defScope sInteger) := ⟨rfl, rfl, rfl, by decide +kernel, rfl, by decide +kernel, by decide +kernel⟩
theorem ok_integer {f : Addr} {fd : FuncData} (F : L2.Fun K "is_integer" "is_integer" sInteger f fd) (T : Gb mg) : FnOk P w K mg base CX0 1 f fd ["thing"] (spInteger K) := by
  refine F.ok scInt (fun vs H Q E h => ?_) (fun cdv A outer s H vs Q E hr h => ?_)
  · obtain ⟨x, rfl, _⟩ := h
    rfl
  · obtain ⟨x, rfl, th, k⟩ := h
    unfold Th at th
    obtain ⟨t, ty, ki, kb, _⟩ := th
    refine ⟨_, pss_one (ps_ret (pe_and (pe_callB call_isi (by rfl) T.isi (by decide +kernel) (pa_cons (pv 0) (pa_cons (pe_bltn (v := .ty "int") (by rfl) T.int (by decide +kernel) rfl) pa_nil)))
      (pe_one (pe_not (pe_callB call_isi (by rfl) T.isi (by decide +kernel) (pa_cons (pv 0) (pa_cons (pe_bltn (v := .ty "bool") (by rfl) T.bool (by decide +kernel) rfl) pa_nil))))))), ?_⟩
    refine ⟨_, rfl, x, .ty "int", t, .type "int", _, rfl, .ty _, ty, ki, _, rfl, ?_⟩
    cases x <;> first
      | exact iteF k
      | (refine iteT ⟨_, rfl, _, .ty "bool", t, .type "bool", _, rfl, .ty _, ty, kb, _, rfl, ?_⟩; exact k)
theorem scNum : FnScope ["most", "thing"] ["most", "thing"] (defScope sNumber) := ⟨rfl, rfl, rfl, by decide +kernel, rfl, by decide +kernel, by decide +kernel⟩
theorem ok_number {f : Addr} {fd : FuncData} (F : L2.Fun K "is_number" "is_number" sNumber f fd) (cI : Cal P w K mg base 1 "is_integer" (spInteger K) []) : FnOk P w K mg base CX0 2 f fd ["most", "thing"] (spNumber K) := by
  refine F.ok scNum (fun vs H Q E h => ?_) (fun cdv A outer s H vs Q E hr h => ?_)
  · obtain ⟨m, x, rfl, _⟩ := h
    rfl
  · obtain ⟨m, x, rfl, th, k⟩ := h
    refine ⟨_, pss_one (ps_ret (pe_and (C8.pe_c cI hr (by decide) (by rfl) (pa_cons (pv 1) pa_nil)) (pe_one (pe_chain op_le op_le pe_int (pv 1) (pv 0))))), ?_⟩
    refine ⟨_, rfl, x, rfl, th, _, rfl, ?_⟩
    cases x with
    | int i =>
      refine iteT ⟨_, rfl, _, _, rfl, rfl, _, rfl, ?_⟩
      by_cases h0 : (0 : Int) ≤ i
      · rw [decide_eq_true h0]
        refine iteT ⟨_, rfl, _, _, rfl, rfl, ?_⟩
        have e : numV m (.int i) = decide (i ≤ m) := by simp [numV, h0]
        rw [e] at k
        exact k
      · rw [decide_eq_false h0]
        have e : numV m (.int i) = false := by simp [numV, h0]
        rw [e] at k
        exact iteF k
    | _ => exact iteF k
end
end V44

set_option Elab.async false
set_option linter.all false
set_option maxRecDepth 100000
set_option maxHeartbeats 4000000
/-! enumerate over a tuple that is tracked: the iterator (by the library's WalksT.enumerateD over Draws.tuple), the rule of the layer, the loop. -/
namespace V44
open PySem L2 PyProof.Rows
open PySem.Sem (wp)
theorem en_new (l : Addr) (us : Array Value) (n : Nat) (dd : Option Addr) (sl : Array (Option Value)) :
    Meets (Builtin.«enumerate.__new__» ⟨[.type "enumerate", .ref l], []⟩) fun _ R s => s.heap.get? l = some { cls := .type "tuple", dict := dd, data := .seq us n, slots := sl } ∧
      R (.ok (.ret (.ref (s.heap.objs.size + 1)))) { s with heap := (s.heap.push { cls := .type "tuple_iterator", data := .fields #[.ref l, .int 0 0] }).push { cls := .type "enumerate", data := .fields #[.none, .bool false, .ref s.heap.objs.size, rawInt 0, .none, .none] } } := by
  refine .of_wp fun prog w A R s hh => ?_
  rcases s with ⟨hp, gs, dr, tk, os⟩
  rcases hh with ⟨there, hR⟩
  have isT : Heap.IsTuple (Shared.heap ⟨hp, gs, dr, tk, os⟩) l us := ⟨_, there, rfl, n, rfl⟩
  have same := sub_enumerate
  have big : (hp.push { cls := .type "tuple_iterator", data := .fields #[.ref l, .int 0 0] }).objs.size = hp.objs.size + 1 := Heap.size_push ..
  have hR' : R (.ok (.ret (.ref (hp.push { cls := .type "tuple_iterator", data := .fields #[.ref l, .int 0 0] }).objs.size))) ⟨(hp.push { cls := .type "tuple_iterator", data := .fields #[.ref l, .int 0 0] }).push { cls := .type "enumerate", data := .fields #[.none, .bool false, .ref hp.objs.size, rawInt 0, .none, .none] }, gs, dr, tk, os⟩ := by
    rw [big]; exact hR
  wp_walk using AutoSeq1.wpAny_loadPart' there
  refine wpAny_stack_any fun st => wpAny_pure ?_
  split
  · rename_i c _ _ _ _ _
    cases (c == Value.type "enumerate") <;>
    · wp_walk using AutoSeq1.wpAny_loadPart' there, wpAny_pyIter_tuple isT
      exact ⟨_, rfl, hR'⟩
  · wp_walk using AutoSeq1.wpAny_loadPart' there, wpAny_pyIter_tuple isT
    exact ⟨_, rfl, hR'⟩
theorem call_en {prog : Program} {w : World} {A : Around} {E : Value → Shared → Prop} {s : Shared} {l : Addr} {us : Array Value} {Q : Value → Shared → Prop} (isT : s.heap.IsTuple l us)
    (h : ∀ h' : Heap, IsEnum h' (s.heap.objs.size + 1) s.heap.objs.size 0 .none → h'.IsTupleIter s.heap.objs.size l 0 → (∀ b o, s.heap.get? b = some o → h'.get? b = some o) → Q (.ref (s.heap.objs.size + 1)) { s with heap := h' }) :
    wpAny (model prog w) A (call (.type "enumerate") [.ref l]) Q E s := by
  rcases isT with ⟨⟨c, dd, dt, sl⟩, there, hc, n, hd⟩
  obtain rfl : c = .type "tuple" := hc
  obtain rfl : dt = .seq us n := hd
  refine callType_new F.called_enumerate (by decide) (F.typeCall_enumerate_1 _) (F.newCall_enumerate_1 _) (fun obj => F.args_object_init_2 obj _) F.entry_enumerate_new (en_new l us n dd sl) ⟨there, ?_⟩
  have big : (s.heap.push { cls := .type "tuple_iterator", data := .fields #[.ref l, .int 0 0] }).objs.size = s.heap.objs.size + 1 := Heap.size_push ..
  have en : IsEnum ((s.heap.push { cls := .type "tuple_iterator", data := .fields #[.ref l, .int 0 0] }).push { cls := .type "enumerate", data := .fields #[.none, .bool false, .ref s.heap.objs.size, rawInt 0, .none, .none] }) (s.heap.objs.size + 1) s.heap.objs.size 0 .none := by
    rw [← big]
    exact Heap.get?_push_size _ rfl
  exact ⟨⟨_, en, rfl⟩, h _ en ⟨_, Heap.get?_push_of_some _ (Heap.get?_push_size _ rfl), rfl, rfl⟩ fun b o z => Heap.get?_push_of_some _ (Heap.get?_push_of_some _ z)⟩
/-- the items of the tracked tuple at a, each in a new pair with its number -/
def ItEn (a : Addr) : It where
  go := fun i H => ∃ (xs : List V) (x : V), Rd H a (.tup xs) ∧ xs[i]? = some x
  yld := fun i H v H' => ∃ (p : Addr) (x : V), v = .ref p ∧ H p = none ∧ H' = upd H p (.tup [.int (i : Nat), x]) ∧ ∀ xs, Rd H a (.tup xs) → xs[i]? = some x
  stop := fun i H => ∃ xs : List V, Rd H a (.tup xs) ∧ xs.length = i
def enAt (a e it : Addr) (i : Nat) (h : Heap) : Prop := (∃ old, IsEnum h e it (i : Int) old) ∧ h.IsTupleIter it a i ∧ e ≠ it
section
variable {X : Cx} {pins : List (Addr × Obj)} {σ : L2.St} {H : Hp} {s : Shared} {a e it : Addr} {xs : List V}
/-- the library's walk, at a state that the layer knows -/
theorem en_walk (hc : X.calm = true) (I : Inv X pins σ H s) (hf : ∀ b ∈ [e, it], FpOk X pins H b) (hne : e ≠ it) (hq : Rd H a (.tup xs)) :
    ∃ its : List Value, Vals xs its ∧ s.heap.IsTuple a its.toArray ∧ WalksT X.prog X.w X.A e (e :: [it, a]) [e, it] its.toArray.size (fun i vals => ∃ t x, its.toArray[i]? = some x ∧ vals = #[.int i t, x])
      (fun i h => (∃ old, IsEnum h e it i old) ∧ (h.IsTupleIter it a i ∧ h.IsTuple a its.toArray)) (fun i T h => (∃ x, IsEnumOut h e it ((i : Int) + 1) x T) ∧ (h.IsTupleIter it a (i + 1) ∧ h.IsTuple a its.toArray) ∧ T ≠ e ∧ T ≠ it) := by
  obtain ⟨its, rv, p, _⟩ := I.tuple (show SqT X.K H a xs from .inl hq)
  have un : ∀ b ∈ [e, it], b ≠ a := fun b hb z => by
    have n := (hf b hb).1
    rcases hq with hq | ⟨o, hq⟩ <;> (rw [z, hq] at n; cases n)
  refine ⟨its, rv, p, WalksT.enumerateD (Draws.tuple (A := X.A.in1) (I.ok.hd hc) it a (Ne.symm (un it (by simp))) its.toArray) e hne ?_ (by simp)⟩
  intro z
  rcases List.mem_cons.mp z with z | z
  · exact hne z
  · exact un e (by simp) (List.mem_singleton.mp z)
end
theorem en_turn {P : Program} {w : World} {K : PySem.W.Frag} {elts : List Expr} {kk : Nat} {tpos : Pos} (a e it : Addr) : Turn P w K (.Tuple elts kk tpos) (ItEn a) [e, it] e (enAt a e it) := by
  refine ⟨by simp, fun i h st b hb => ?_, fun i h h' st k => ⟨?_, ?_, st.2.2⟩, ?_, ?_, fun A i s Q E st q => ?_⟩
  · rcases st with ⟨⟨old, en⟩, ⟨ob, there, _, dt⟩, _⟩
    rcases List.mem_cons.mp hb with z | z
    · subst z
      exact ⟨_, en, fun v q => by cases q⟩
    · rw [List.mem_singleton.mp z]
      exact ⟨ob, there, fun v q => by rw [dt] at q; cases q⟩
  · exact st.1.imp fun old en => k e (by simp) _ en
  · exact st.2.1.at fun ob z => k it (by simp) ob z
  · intro X eP eW eK hc i pins s σ H E I hf st go
    subst eP eW eK
    obtain ⟨xs, x, hq, hx⟩ := go
    obtain ⟨its, rv, isT, W⟩ := en_walk hc I hf st.2.2 hq
    obtain ⟨u, hu, ru⟩ := rv.get hx
    have lt : i < its.toArray.size := by simpa using (List.getElem?_eq_some_iff.mp hu).1
    refine W.item i s _ E lt ⟨st.1, st.2.1, isT⟩ fun T vals h1 tk pt big hT mid keep1 => ⟨_, rfl, ?_⟩
    obtain ⟨t, y, hy, rfl⟩ := pt
    obtain rfl : y = u := by
      have hu' : its.toArray[i]? = some u := by simpa using hu
      exact Option.some.inj (hy.symm.trans hu')
    refine W.go elts kk tpos i T { s with heap := h1, toks := tk } _ E mid fun h2 st2 keep2 => ?_
    have nT : T ∉ [e, it] := W.apart i T h1 mid
    have hT2 : h2.IsTuple T #[.int (i : Nat) t, y] := hT.at fun ob z => keep2 T ob nT z
    have J : Inv X pins σ (upd H T (.tup [.int (i : Nat), x])) { s with heap := h2, toks := tk } :=
      I.turnedNew (ch := [e, it]) (fun b ob hb z => keep2 b ob hb (keep1 b ob hb z)) hf big ⟨by show 2 ≤ sizeLine; decide, [.int i t, y], .cons ⟨_, rfl⟩ (.cons ru .nil), hT2⟩
    refine ⟨.ref T, _, J, rfl, ⟨T, x, rfl, I.hok.fresh big, rfl, fun ys hy => by rw [I.tuple_inj (show SqT _ H a ys from .inl hy) (show SqT _ H a xs from .inl hq)]; exact hx⟩, ⟨st2.1, st2.2.1, st.2.2⟩, fun b hb => ?_⟩
    have nb : b ≠ T := fun z => nT (by rw [← z]; exact hb)
    rw [upd_ne nb]
    exact (hf b hb).1
  · intro X eP eW eK hc i pins s σ H E I hf st stop
    subst eP eW eK
    obtain ⟨xs, hq, hl⟩ := stop
    obtain ⟨its, rv, isT, W⟩ := en_walk hc I hf st.2.2 hq
    have ei : its.toArray.size = i := by
      rw [← hl, rv.length]
      simp
    refine W.done s _ E ?_ fun h1 tk keep => ⟨rfl, ?_⟩
    · rw [ei]
      exact ⟨st.1, st.2.1, isT⟩
    · exact I.turnedL (ch := [e, it]) keep hf
  · exact wpAny_pyIter_enum st.1.choose_spec q
def iEn (ta : TA) : TI := fun σ H R => ta σ H fun vs H1 => ∃ (a : Addr) (xs : List V), vs = [.ref a] ∧ Rd H1 a (.tup xs) ∧ R (ItEn a) H1
/-- for .., .. in enumerate(a tuple) -/
theorem pi_en {X : Cx} {e : Expr} {ta : TA} {p pos tpos : Pos} {elts : List Expr} {kk : Nat} (hg : Gl X "enumerate") (hm : X.mg "enumerate" = none) (ha : PA X [e] ta) (hs : starEach [e] X.env = [(false, eval e X.env)] := by rfl) :
    PI X (.Tuple elts kk tpos) (.Call (.Name "enumerate" p) [e] [] pos) (iEn ta) := by
  constructor
  intro pins s σ H R I h
  refine Call_ (ld_blt I hg hm boot_enumerate (PyProof.Rows.callWith_type1 (thn (ha.run pos pins s σ H _ I h) ?_) hs rfl))
  rintro us s1 ⟨vs, H1, I1, r, a, xs, rfl, hq, q⟩
  match us, r with
  | [u], .cons ru .nil =>
    obtain rfl : u = Value.ref a := ru
    obtain ⟨its, rv, isT, _⟩ := I1.tuple (show SqT X.K H1 a xs from .inl hq)
    refine call_en isT fun h1 en ti keep => wpAny_pyIter_enum en ?_
    refine ⟨_, [s1.heap.objs.size + 1, s1.heap.objs.size], _, _, H1, rfl, I1.kept (t' := s1.toks) keep, en_turn a _ _, ⟨⟨.none, en⟩, ti, Nat.succ_ne_self _⟩, fun b hb => ?_, q⟩
    have big : s1.heap.objs.size ≤ b := by
      rcases List.mem_cons.mp hb with z | z
      · rw [z]; exact Nat.le_succ _
      · rw [List.mem_singleton.mp z]; exact Nat.le_refl _
    exact I1.fpOk big (I1.hok.fresh big)
/-- the loop by an invariant of its own -/
theorem for_en {a : Addr} {xs : List V} {g : TG} {tb : TS} {D : Ends} {σ : L2.St} {H : Hp} (Pv : Nat → L2.St → Hp → Prop) (h0 : Pv 0 σ H) (hl : ∀ i σ H, Pv i σ H → Rd H a (.tup xs))
    (hs : ∀ (i : Nat) x σ H p, xs[i]? = some x → Pv i σ H → H p = Option.none → g (.ref p) σ (upd H p (.tup [.int (i : Nat), x])) fun σ2 H2 => tb { D with nx := Pv (i + 1), ct := Pv (i + 1), bk := D.nx } σ2 H2) (hd : ∀ σ H, Pv xs.length σ H → D.nx σ H) :
    ∃ W : Nat → Nat → L2.St → Hp → Prop, (∃ m, W 0 m σ H) ∧ ∀ i m σ H, W i m σ H → ((ItEn a).stop i H ∧ D.nx σ H) ∨ ((ItEn a).go i H ∧ ∃ N : L2.St → Hp → Prop, (∀ σ' H', N σ' H' → ∃ m', m' < m ∧ W (i + 1) m' σ' H') ∧ ∀ x H', (ItEn a).yld i H x H' → g x σ H' fun σ2 H2 => tb { D with nx := N, ct := N, bk := D.nx } σ2 H2) := by
  refine ⟨fun i m σ H => i + m = xs.length ∧ Pv i σ H, ⟨_, Nat.zero_add _, h0⟩, ?_⟩
  intro i m σ H ⟨em, p⟩
  have q := hl i σ H p
  cases m with
  | zero =>
    have ei : i = xs.length := em
    rw [ei] at p ⊢
    exact .inl ⟨⟨xs, q, rfl⟩, hd σ H p⟩
  | succ m =>
    have lt : i < xs.length := by omega
    have hx : xs[i]? = some xs[i] := List.getElem?_eq_getElem lt
    refine .inr ⟨⟨xs, _, q, hx⟩, Pv (i + 1), fun σ' H' p' => ⟨m, Nat.lt_succ_self m, by omega, p'⟩, ?_⟩
    rintro y H' ⟨t, x, rfl, nt, rfl, hy⟩
    obtain rfl : x = xs[i] := Option.some.inj ((hy xs q).symm.trans hx)
    exact hs i _ σ H t hx p nt
end V44

set_option Elab.async false
set_option linter.all false
set_option maxRecDepth 100000
set_option maxHeartbeats 4000000
set_option pp.maxSteps 60
namespace V44
open PySem L2
/-- what is tracked but for the bag -/
def Off (a c : Addr) (H : Hp) : Hp := fun b => if b = a ∨ b = c then none else H b
theorem off_at {a c b : Addr} {H : Hp} {o : HO} (h : b ≠ a ∧ b ≠ c) (e : H b = some o) : Off a c H b = some o := by
  unfold Off
  rw [if_neg (fun z => z.elim h.1 h.2)]
  exact e
theorem off_some {a c b : Addr} {H : Hp} {o : HO} (h : Off a c H b = some o) : b ≠ a ∧ b ≠ c ∧ H b = some o := by
  unfold Off at h
  by_cases e : b = a ∨ b = c
  · rw [if_pos e] at h; cases h
  · rw [if_neg e] at h; exact ⟨fun z => e (.inl z), fun z => e (.inr z), h⟩
theorem Go.off {a c : Addr} {H H' : Hp} (g : Go a c H H') : Ext (Off a c H) (Off a c H') := fun b o h => by
  obtain ⟨n, m, e⟩ := off_some h
  exact off_at ⟨n, m⟩ (g.2 b o n m e)
theorem off_le {a c : Addr} {H : Hp} : Ext (Off a c H) H := fun b o h => (off_some h).2.2
theorem off_tup {a c q : Addr} {H : Hp} {xs : List V} (p : BagAt H a c) (h : H q = some (.tup xs)) : (Off a c H) q = some (.tup xs) := off_at (bag_no p h fun _ z => nomatch z) h
/-! ### kinds of things -/
section
variable {K : PySem.W.Frag} {S : Hp} {n : Nat}
theorem Th.plain {x : V} {t : Value} (ty : TyX K S x t) (h1 : PySem.W.kitOne K t (.type "int") = some (isI x || isB x)) (h2 : PySem.W.kitOne K t (.type "bool") = some (isB x)) (h3 : PySem.W.kitOne K t (.type "tuple") = some false)
    (h : ∀ a, x = .ref a → ∃ o, S a = some o ∧ ∀ xs, o ≠ .tup xs) : Th K S n x := by
  unfold Th
  exact ⟨t, ty, h1, h2, .inl ⟨h3, h⟩⟩
theorem Th.non : Th K S n .non := Th.plain (.base .non) (kit_ty (by decide +kernel)) (kit_ty (by decide +kernel)) (kit_ty (by decide +kernel)) fun _ h => nomatch h
theorem Th.bl (b : Bool) : Th K S n (.bl b) := Th.plain (.base (.bl b)) (kit_ty (show kitB "bool" "int" = some true by decide +kernel)) (kit_ty (show kitB "bool" "bool" = some true by decide +kernel)) (kit_ty (by decide +kernel)) fun _ h => nomatch h
theorem Th.int (i : Int) : Th K S n (.int i) := Th.plain (.base (.int i)) (kit_ty (show kitB "int" "int" = some true by decide +kernel)) (kit_ty (show kitB "int" "bool" = some false by decide +kernel)) (kit_ty (by decide +kernel)) fun _ h => nomatch h
theorem Th.str (z : Str) : Th K S n (.str z) := Th.plain (.base (.str z)) (kit_ty (show kitB "str" "int" = some false by decide +kernel)) (kit_ty (show kitB "str" "bool" = some false by decide +kernel)) (kit_ty (by decide +kernel)) fun _ h => nomatch h
theorem Th.lst {p : Addr} {xs : List V} (h : S p = some (.lst xs)) : Th K S n (.ref p) :=
  Th.plain (.base (.lst h)) (kit_ty (show kitB "list" "int" = some false by decide +kernel)) (kit_ty (show kitB "list" "bool" = some false by decide +kernel)) (kit_ty (by decide +kernel)) fun a e => by cases e; exact ⟨_, h, fun _ z => nomatch z⟩
theorem Th.dct {p : Addr} {kvs : List (Key × V)} (h : S p = some (.dK kvs)) : Th K S n (.ref p) :=
  Th.plain (.base (.dK h)) (kit_ty (show kitB "dict" "int" = some false by decide +kernel)) (kit_ty (show kitB "dict" "bool" = some false by decide +kernel)) (kit_ty (by decide +kernel)) fun a e => by cases e; exact ⟨_, h, fun _ z => nomatch z⟩
theorem Th.tup {p : Addr} {xs : List V} (h : S p = some (.tup xs)) (it : ∀ y ∈ xs, Th K S n y) : Th K S (n + 1) (.ref p) := by
  unfold Th
  exact ⟨_, .base (.tup h), kit_ty (show kitB "tuple" "int" = some false by decide +kernel), kit_ty (show kitB "tuple" "bool" = some false by decide +kernel), .inr ⟨kit_ty (by decide +kernel), p, xs, rfl, h, it⟩⟩
end
theorem Th.tup0 {K : PySem.W.Frag} {S : Hp} {p : Addr} {xs : List V} (h : S p = some (.tup xs)) : Th K S 0 (.ref p) := by
  unfold Th
  exact ⟨_, .base (.tup h), kit_ty (show kitB "tuple" "int" = some false by decide +kernel), kit_ty (show kitB "tuple" "bool" = some false by decide +kernel), .inr ⟨kit_ty (by decide +kernel), p, xs, rfl, h, True.intro⟩⟩
theorem eqv_ints : ∀ l k : List Int, PyData.eqvAll (l.map .int) (k.map .int) = decide (l = k)
  | [], [] => by simp [PyData.eqvAll]
  | [], y :: k => by simp [PyData.eqvAll]
  | x :: l, [] => by simp [PyData.eqvAll]
  | x :: l, y :: k => by
    have ih := eqv_ints l k
    simp only [List.map_cons, PyData.eqvAll, PyData.eqv, ih]
    by_cases h : x = y <;> by_cases g : l = k <;> simp [h, g]
def dT (ll : List (List Int)) : PyData := .tuple (ll.map fun l => .tuple (l.map .int))
theorem eqv_lists : ∀ l k : List (List Int), PyData.eqvAll (l.map fun l => .tuple (l.map .int)) (k.map fun l => .tuple (l.map .int)) = decide (l = k)
  | [], [] => by simp [PyData.eqvAll]
  | [], y :: k => by simp [PyData.eqvAll]
  | x :: l, [] => by simp [PyData.eqvAll]
  | x :: l, y :: k => by
    have ih := eqv_lists l k
    simp only [List.map_cons, PyData.eqvAll, PyData.eqv, ih, eqv_ints]
    by_cases h : x = y <;> by_cases g : l = k <;> simp [h, g]
theorem eqv_dT (l k : List (List Int)) : PyData.eqv (dT l) (dT k) = decide (l = k) := by
  show PyData.eqvAll _ _ = _
  exact eqv_lists l k
theorem lay_ints : ∀ l : List Int, PyData.canLayAll0 (l.map .int) = true ∧ PyData.depthAll (l.map .int) = 0
  | [] => ⟨by simp [PyData.canLayAll0], by simp [PyData.depthAll]⟩
  | x :: l => by
    obtain ⟨h, g⟩ := lay_ints l
    exact ⟨by simp [PyData.canLayAll0, PyData.canLay0, h], by simp [PyData.depthAll, PyData.depth, g]⟩
theorem lay_lists : ∀ l : List (List Int), PyData.canLayAll0 (l.map fun l => .tuple (l.map .int)) = true ∧ PyData.depthAll (l.map fun l => .tuple (l.map .int)) ≤ 1
  | [] => ⟨by simp [PyData.canLayAll0], by simp [PyData.depthAll]⟩
  | x :: l => by
    obtain ⟨h, g⟩ := lay_lists l
    obtain ⟨h1, g1⟩ := lay_ints x
    refine ⟨by simp [PyData.canLayAll0, PyData.canLay0, h, h1], ?_⟩
    simp only [List.map_cons, PyData.depthAll, PyData.depth, g1]
    omega
theorem shaped_dT (l : List (List Int)) : SeqAt.shaped (dT l) = true := by
  obtain ⟨h, g⟩ := lay_lists l
  refine Bool.and_eq_true_iff.mpr ⟨by unfold dT; rw [PyData.canLay0]; exact h, decide_eq_true ?_⟩
  unfold dT
  rw [PyData.depth]
  exact Nat.le_trans (Nat.succ_le_succ g) (by decide)
/-- a tuple of tuples of ints stands at b -/
def TT (H : Hp) (b : Addr) (ll : List (List Int)) : Prop := ∃ as : List Addr, H b = some (.tup (as.map V.ref)) ∧ Paired (fun a l => H a = some (.tup (l.map V.int))) as ll
theorem Paired.imp' {α β : Type} {F G : α → β → Prop} (h : ∀ a b, F a b → G a b) : ∀ {l : List α} {k : List β}, Paired F l k → Paired G l k
  | _, _, .nil => .nil
  | _, _, .cons a r => .cons (h _ _ a) (Paired.imp' h r)
theorem TT.ext {H H' : Hp} {b : Addr} {ll : List (List Int)} (e : Ext H H') (h : TT H b ll) : TT H' b ll := by
  obtain ⟨as, h1, h2⟩ := h
  exact ⟨as, e _ _ h1, Paired.imp' (fun a l h => e _ _ h) h2⟩
theorem dp_ints {K : PySem.W.Frag} {H : Hp} : ∀ l : List Int, DpAll K H (l.map V.int) (l.map .int)
  | [] => .nil
  | x :: l => .cons (.int x) (dp_ints l)
theorem dp_lists {K : PySem.W.Frag} {H : Hp} : ∀ {as : List Addr} {ll : List (List Int)}, Paired (fun a l => H a = some (.tup (l.map V.int))) as ll → DpAll K H (as.map V.ref) (ll.map fun l => .tuple (l.map .int))
  | _, _, .nil => .nil
  | _, _, .cons h r => .cons (.tup (SqT.of h) (dp_ints _)) (dp_lists r)
theorem TT.dp {K : PySem.W.Frag} {H : Hp} {b : Addr} {ll : List (List Int)} (h : TT H b ll) : Dp K H (.ref b) (dT ll) := by
  obtain ⟨as, h1, h2⟩ := h
  exact .tup (SqT.of h1) (dp_lists h2)
/-- the tuples at these places are these -/
abbrev PT2 (S : Hp) (as : List Addr) (ll : List (List Int)) : Prop := Paired (fun a l => S a = some (.tup (l.map V.int))) as ll
theorem PT2.len {S : Hp} : ∀ {as : List Addr} {ll : List (List Int)}, PT2 S as ll → as.length = ll.length
  | _, _, .nil => rfl
  | _, _, .cons _ r => congrArg (· + 1) (PT2.len r)
theorem PT2.get {S : Hp} : ∀ {as : List Addr} {ll : List (List Int)} {i : Nat} {a : Addr}, PT2 S as ll → as[i]? = some a → ∃ l, ll[i]? = some l ∧ S a = some (.tup (l.map V.int))
  | _, _, i, _, .nil, h => by simp at h
  | _, _, 0, _, .cons x _, h => by cases h; exact ⟨_, rfl, x⟩
  | _, _, i + 1, _, .cons _ r, h => PT2.get (i := i) r (by simpa using h)
theorem PT2.put {S : Hp} {b : Addr} {l : List Int} (h : S b = some (.tup (l.map V.int))) : ∀ {as : List Addr} {ll : List (List Int)} {i : Nat}, PT2 S as ll → PT2 S (as.set i b) (ll.set i l)
  | _, _, i, .nil => by simpa using (Paired.nil)
  | _, _, 0, .cons _ r => .cons h r
  | _, _, i + 1, .cons x r => .cons x (PT2.put h r)
theorem PT2.snoc {S : Hp} {b : Addr} {l : List Int} {as : List Addr} {ll : List (List Int)} (r : PT2 S as ll) (h : S b = some (.tup (l.map V.int))) : PT2 S (as ++ [b]) (ll ++ [l]) := Paired.snoc r h
theorem PT2.mono {S S' : Hp} {as : List Addr} {ll : List (List Int)} (e : ∀ b xs, S b = some (.tup xs) → S' b = some (.tup xs)) (r : PT2 S as ll) : PT2 S' as ll := Paired.imp' (fun a l h => e _ _ h) r
theorem PT2.th {K : PySem.W.Frag} {S : Hp} {n : Nat} {as : List Addr} {ll : List (List Int)} (r : PT2 S as ll) : ∀ y ∈ as.map V.ref, Th K S (n + 1) y := by
  intro y hy
  obtain ⟨a, ha, rfl⟩ := List.mem_map.mp hy
  obtain ⟨i, hi⟩ := List.mem_iff_getElem?.mp ha
  obtain ⟨l, _, h⟩ := r.get hi
  refine Th.tup h fun z hz => ?_
  obtain ⟨k, _, rfl⟩ := List.mem_map.mp hz
  exact Th.int k
/-- two tuples put together, whichever object that is -/
theorem cat_any {K : PySem.W.Frag} {H : Hp} {Q : VK} {a b : Addr} {xs ys : List V} (ha : H a = some (.tup xs)) (hb : H b = some (.tup ys)) (len : xs.length + ys.length ≤ 1000) (k : ∀ (p : Addr) (H' : Hp), Ext H H' → H' p = some (.tup (xs ++ ys)) → Q (.ref p) H') : rCatA K (.ref a) (.ref b) H Q :=
  ⟨a, b, xs, ys, rfl, rfl, SqT.of ha, SqT.of hb, Nat.le_trans len (by decide), fun e => by subst e; exact k b H Ext.rfl' hb, fun _ e => by subst e; exact k a H Ext.rfl' (by rw [List.append_nil]; exact ha), fun _ _ p np => k p _ (Ext.upd np) upd_same⟩
theorem sl_any {K : PySem.W.Frag} {H : Hp} {Q : VK} {a : Addr} {xs : List V} {lo hi : Option Int} (ha : H a = some (.tup xs)) (k : ∀ (p : Addr) (H' : Hp), Ext H H' → H' p = some (.tup (cutV xs lo hi)) → Q (.ref p) H') : rSlA K (.ref a) lo hi H Q := by
  refine ⟨a, xs, rfl, SqT.of ha, fun z => k a H Ext.rfl' ?_, fun _ p np => k p _ (Ext.upd np) upd_same⟩
  unfold cutV
  rw [z.1, z.2, List.drop_zero, Nat.sub_zero, List.take_of_length_le (Nat.le_refl _)]
  exact ha
theorem cut_mem {xs : List V} {lo hi : Option Int} {y : V} (h : y ∈ cutV xs lo hi) : y ∈ xs := List.mem_of_mem_drop (List.mem_of_mem_take h)
theorem Th.tup_back {K : PySem.W.Frag} {H H1 : Hp} {n : Nat} {b : Addr} {xs : List V} (e : Ext H H1) (h : Th K H n (.ref b)) (h1 : H1 b = some (.tup xs)) : H b = some (.tup xs) := by
  unfold Th at h
  obtain ⟨t, _, _, _, h⟩ := h
  rcases h with ⟨_, h⟩ | ⟨_, b', ys, e', hb, _⟩
  · obtain ⟨o, ho, no⟩ := h b rfl
    rw [e _ _ ho] at h1
    cases h1
    exact absurd rfl (no xs)
  · cases e'
    have := (e _ _ hb).symm.trans h1
    cases this
    exact hb
theorem lst_ne {H : Hp} {f b : Addr} {xs ys : List V} (hf : H f = some (.lst xs)) (hb : H b = some (.tup ys)) : b ≠ f := fun e => by
  rw [e, hf] at hb
  cases hb
theorem int_inj : ∀ {ns ks : List Int}, ns.map V.int = ks.map V.int → ns = ks
  | [], [], _ => rfl
  | n :: ns, k :: ks, h => by
    injection h with h1 h2
    injection h1 with h1
    rw [h1, int_inj h2]
  | [], k :: ks, h => by cases h
  | n :: ns, [], h => by cases h
end V44

set_option Elab.async false
set_option linter.all false
set_option maxRecDepth 100000
set_option maxHeartbeats 4000000
set_option pp.maxSteps 60
/-! Cells and their faces. -/
namespace V44
open PySem L2
abbrev sAsc : Stmt := top 6
abbrev sCell : Stmt := top 54
abbrev sFaces : Stmt := top 55
abbrev sLFaces : Stmt := top 65
/-! ### in, of a tuple through and through -/
def rInT (K : PySem.W.Frag) : R2 := fun x y H Q => ∃ d ds, Dp K H x d ∧ Dp K H y (.tuple ds) ∧ SeqAt.shaped d = true ∧ SeqAt.shaped (.tuple ds) = true ∧ Q (.bl (ds.any fun z => PyData.eqv z d)) H
theorem op_inT {X : Cx} (hu : X.A.units + 65 < cLine) : OpR X (compareOp .In) (rInT X.K) := by
  rintro pins s σ H x y v u Q I rx ry ⟨d, ds, hd, he, sd, se, q⟩
  obtain ⟨as, r1⟩ := Dp.reads I d x v hd rx
  obtain ⟨bs, r2⟩ := Dp.reads I (.tuple ds) y u he ry
  exact SeqAt.in_tuple_reads r2 r1 (SeqAt.canLay_of_shaped se) (SeqAt.canLay_of_shaped sd) (PyProof.Rows.room_in_shaped sd hu) ⟨.bl _, H, I, rfl, q⟩
def tI (l : List Int) : PyData := .tuple (l.map .int)
theorem shaped_tI (l : List Int) : SeqAt.shaped (tI l) = true := by
  obtain ⟨h, g⟩ := lay_ints l
  unfold tI
  refine Bool.and_eq_true_iff.mpr ⟨by rw [PyData.canLay0]; exact h, decide_eq_true ?_⟩
  rw [PyData.depth, g]
  decide
theorem shaped_dL (l : List (List Int)) : SeqAt.shaped (.list (l.map tI)) = true := by
  obtain ⟨h, g⟩ := lay_lists l
  refine Bool.and_eq_true_iff.mpr ⟨by rw [PyData.canLay0]; exact h, decide_eq_true ?_⟩
  rw [PyData.depth]
  exact Nat.le_trans (Nat.succ_le_succ g) (by decide)
theorem eqv_tI (l k : List Int) : PyData.eqv (tI l) (tI k) = decide (l = k) := by
  unfold tI
  rw [PyData.eqv]
  exact eqv_ints l k
theorem any_tI (ll : List (List Int)) (l : List Int) : ((ll.map tI).any fun z => PyData.eqv z (tI l)) = decide (l ∈ ll) := by
  induction ll with
  | nil => simp
  | cons k ll ih =>
    rw [List.map_cons, List.any_cons, ih, eqv_tI]
    by_cases h : k = l
    · simp [h]
    · have h' : ¬ l = k := fun e => h e.symm
      simp [h, h']
theorem dp_tI {K : PySem.W.Frag} {H : Hp} {c : Addr} {l : List Int} (h : H c = some (.tup (l.map V.int))) : Dp K H (.ref c) (tI l) := .tup (SqT.of h) (dp_ints l)
theorem dp_lst {K : PySem.W.Frag} {H : Hp} {c : Addr} {as : List Addr} {ll : List (List Int)} (h : H c = some (.lst (as.map V.ref))) (pt : PT2 H as ll) : Dp K H (.ref c) (.list (ll.map tI)) := .lst (SqL.of h) (dp_lists pt)
/-- a cell in a tuple of cells, in a list of cells -/
theorem in_T {K : PySem.W.Frag} {H : Hp} {c q : Addr} {l : List Int} {ll : List (List Int)} {Q : VK} (h : H c = some (.tup (l.map V.int))) (tt : TT H q ll) (k : Q (.bl (decide (l ∈ ll))) H) : rInT K (.ref c) (.ref q) H Q :=
  ⟨tI l, ll.map tI, dp_tI h, tt.dp, shaped_tI l, shaped_dT ll, by rw [any_tI]; exact k⟩
theorem in_L {K : PySem.W.Frag} {H : Hp} {c q : Addr} {l : List Int} {as : List Addr} {ll : List (List Int)} {Q : VK} (h : H c = some (.tup (l.map V.int))) (hq : H q = some (.lst (as.map V.ref))) (pt : PT2 H as ll) (k : Q (.bl (decide (l ∈ ll))) H) : rInD K (.ref c) (.ref q) H Q :=
  ⟨tI l, ll.map tI, dp_tI h, dp_lst hq pt, shaped_tI l, shaped_dL ll, by rw [any_tI]; exact k⟩
theorem notin_L {K : PySem.W.Frag} {H : Hp} {c q : Addr} {l : List Int} {as : List Addr} {ll : List (List Int)} {Q : VK} (h : H c = some (.tup (l.map V.int))) (hq : H q = some (.lst (as.map V.ref))) (pt : PT2 H as ll) (k : Q (.bl (!decide (l ∈ ll))) H) : rNotInD K (.ref c) (.ref q) H Q :=
  ⟨tI l, ll.map tI, dp_tI h, dp_lst hq pt, shaped_tI l, shaped_dL ll, by rw [any_tI]; exact k⟩
/-! ### what a cell is -/
def CellL (ns : List Int) : Prop := 1 ≤ ns.length ∧ ns.length ≤ 4 ∧ (∀ n ∈ ns, 0 ≤ n ∧ n ≤ 29) ∧ ns.Pairwise (· < ·)
def Low (ns : List Int) : Prop := (∀ n ∈ ns, 0 ≤ n ∧ n ≤ 29) ∧ ns.Pairwise (· < ·)
def isCell (H : Hp) (x : V) : Prop := ∃ (c : Addr) (ns : List Int), x = .ref c ∧ H c = some (.tup (ns.map V.int)) ∧ CellL ns
def isLow (H : Hp) (x : V) : Prop := ∃ (c : Addr) (ns : List Int), x = .ref c ∧ H c = some (.tup (ns.map V.int)) ∧ Low ns
theorem isCell.ext {H H' : Hp} {x : V} (e : Ext H H') (h : isCell H x) : isCell H' x := by
  obtain ⟨c, ns, ex, hc, r⟩ := h
  exact ⟨c, ns, ex, e _ _ hc, r⟩
theorem isCell.back {K : PySem.W.Frag} {H H1 : Hp} {n : Nat} {x : V} (e : Ext H H1) (h : Th K H n x) (h1 : isCell H1 x) : isCell H x := by
  obtain ⟨c, ns, rfl, hc, r⟩ := h1
  exact ⟨c, ns, rfl, h.tup_back e hc, r⟩
/-- tuples are not too long -/
def Sm (H : Hp) (x : V) : Prop := ∀ (c : Addr) (xs : List V), x = .ref c → H c = some (.tup xs) → xs.length ≤ 1000
theorem Sm.ext {K : PySem.W.Frag} {H H' : Hp} {n : Nat} {x : V} (e : Ext H H') (h : Th K H n x) (s : Sm H x) : Sm H' x := fun c xs ex hc => by
  subst ex
  exact s c xs rfl (h.tup_back e hc)
theorem adj_pairwise : ∀ (ns : List Int), (∀ p ∈ ns.zip ns.tail, p.1 < p.2) ↔ ns.Pairwise (· < ·)
  | [] => by simp
  | [n] => by simp
  | n :: m :: r => by
    have ih := adj_pairwise (m :: r)
    constructor
    · intro h
      have hm : n < m := h (n, m) (by simp)
      have hr := ih.mp fun p hp => h p (by
        show p ∈ (n, m) :: (m :: r).zip r
        exact List.mem_cons_of_mem _ hp)
      refine List.pairwise_cons.mpr ⟨fun a ha => ?_, hr⟩
      rcases List.mem_cons.mp ha with rfl | ha
      · exact hm
      · exact Int.lt_trans hm ((List.pairwise_cons.mp hr).1 a ha)
    · intro h p hp
      obtain ⟨h1, h2⟩ := List.pairwise_cons.mp h
      have hp' : p ∈ (n, m) :: (m :: r).zip r := hp
      rcases List.mem_cons.mp hp' with rfl | hp'
      · exact h1 m List.mem_cons_self
      · exact ih.mpr h2 p hp'
def facesL (ns : List Int) : List (List Int) := if ns.length = 1 then [] else (List.range ns.length).map fun i => ns.eraseIdx i
def allF (ns : List Int) : List (List Int) := (List.range ns.length).map fun i => ns.eraseIdx i
theorem allF_get {ns : List Int} {i : Nat} (h : i < ns.length) : (allF ns)[i]? = some (ns.eraseIdx i) := by
  unfold allF
  rw [List.getElem?_map, List.getElem?_range h]
  rfl
theorem cut_erase {ns : List Int} {i : Nat} (h : i < ns.length) : cutV (ns.map V.int) none (some (i : Int)) ++ cutV (ns.map V.int) (some ((i : Int) + 1)) none = (ns.eraseIdx i).map V.int := by
  have e1 : HT.sIx (ns.map V.int).length (ns.map V.int).length (some (i : Int)) = i := by
    rw [HT.sIx_nat, List.length_map]
    omega
  have e2 : HT.sIx (ns.map V.int).length 0 (some ((i : Int) + 1)) = i + 1 := by
    rw [show ((i : Int) + 1) = ((i + 1 : Nat) : Int) by omega, HT.sIx_nat, List.length_map]
    omega
  unfold cutV
  rw [e1, e2, HT.sIx_none, HT.sIx_none, List.drop_zero, Nat.sub_zero, List.eraseIdx_eq_take_drop_succ, List.map_append, List.map_take, List.map_drop, List.take_of_length_le (l := (ns.map V.int).drop (i + 1))]
  rw [List.length_drop]
  exact Nat.le_refl _
/-- zip of a tuple and a shorter one -/
theorem lc_zipM {K : PySem.W.Frag} {a b : Addr} {xs ys : List V} {g : TG} {tt : L2.TT} {te : TE} {vs : List Nat} {τ : L2.St} {H1 : Hp} {D : Addr} {Qd : Hp → Prop} (len : ys.length ≤ xs.length) (Pv : Nat → Hp → Prop) (h0 : Pv 0 (upd H1 D (.lst [])))
    (hq : ∀ i H, Pv i H → SqT K H a xs ∧ SqT K H b ys)
    (hs : ∀ i x y t H, xs[i]? = some x → ys[i]? = some y → Pv i H → H t = none → g (.ref t) (wipe τ vs) (upd H t (.tup [x, y])) fun σ2 H2 => wipe σ2 vs = wipe τ vs ∧ tt σ2 H2 fun c H3 =>
      if c = true then te σ2 H3 fun z H4 => ∃ acc, H4 D = some (.lst acc) ∧ acc.length < sizeLine ∧ Pv (i + 1) (upd H4 D (.lst (acc ++ [z]))) else Pv (i + 1) H3) (hd : ∀ H, Pv ys.length H → Qd H) :
    ∃ W : Nat → Nat → Hp → Prop, (∃ m, W 0 m (upd H1 D (.lst []))) ∧ ∀ i m H, W i m H →
      ((RZ.ItzT K a b).stop i H ∧ Qd H) ∨ ((RZ.ItzT K a b).go i H ∧ ∃ Nx : Hp → Prop, (∀ H', Nx H' → ∃ m', m' < m ∧ W (i + 1) m' H') ∧ ∀ x H', (RZ.ItzT K a b).yld i H x H' → g x (wipe τ vs) H' fun σ2 H2 => wipe σ2 vs = wipe τ vs ∧ tt σ2 H2 fun c H3 =>
        if c = true then te σ2 H3 fun z H4 => ∃ acc, H4 D = some (.lst acc) ∧ acc.length < sizeLine ∧ Nx (upd H4 D (.lst (acc ++ [z]))) else Nx H3) := by
  refine ⟨fun i m H => m + i = ys.length ∧ Pv i H, ⟨ys.length, rfl, h0⟩, ?_⟩
  rintro i m H ⟨em, p⟩
  obtain ⟨qa, qb⟩ := hq i H p
  cases m with
  | zero =>
    have e : i = ys.length := by omega
    subst e
    exact .inl ⟨⟨xs, ys, qa, qb, .inr (Nat.le_refl _)⟩, hd H p⟩
  | succ k =>
    have lb : i < ys.length := by omega
    have la : i < xs.length := by omega
    have ea : xs[i]? = some xs[i] := List.getElem?_eq_getElem la
    have eb : ys[i]? = some ys[i] := List.getElem?_eq_getElem lb
    refine .inr ⟨⟨xs, ys, _, _, qa, qb, ea, eb⟩, Pv (i + 1), fun H' p' => ⟨k, Nat.lt_succ_self k, by omega, p'⟩, fun v H' y => ?_⟩
    obtain ⟨t, x', y', rfl, nt, rfl, f1, f2⟩ := y
    exact hs i x' y' t H (f1 xs qa) (f2 ys qb) p nt
theorem low_ints : ∀ {xs : List V}, (∀ y ∈ xs, numV 29 y = true) → ∃ ns : List Int, xs = ns.map V.int ∧ ∀ n ∈ ns, 0 ≤ n ∧ n ≤ 29
  | [], _ => ⟨[], rfl, fun n h => by cases h⟩
  | y :: ys, h => by
    obtain ⟨i, rfl, h1, h2⟩ := numV_true.mp (h y List.mem_cons_self)
    obtain ⟨ns, rfl, h3⟩ := low_ints (xs := ys) fun z hz => h z (List.mem_cons_of_mem _ hz)
    refine ⟨i :: ns, rfl, fun n hn => ?_⟩
    rcases List.mem_cons.mp hn with rfl | hn
    · exact ⟨h1, h2⟩
    · exact h3 n hn
theorem map_int_get {ns : List Int} {i : Nat} {x : V} (h : (ns.map V.int)[i]? = some x) : ∃ n, ns[i]? = some n ∧ x = .int n := by
  rw [List.getElem?_map] at h
  cases e : ns[i]? with
  | none => rw [e] at h; cases h
  | some n => rw [e] at h; cases h; exact ⟨n, rfl, rfl⟩
def spAsc (K : PySem.W.Frag) : Sp := fun vs H Q _ => ∃ x : V, vs = [.int 29, x] ∧ Th K H 1 x ∧ Sm H x ∧ ∀ (bb : Bool) (H' : Hp), (bb = true ↔ isLow H x) → Ext H H' → Q (.bl bb) H'
def spCell (K : PySem.W.Frag) : Sp := fun vs H Q _ => ∃ x : V, vs = [x] ∧ Th K H 1 x ∧ Sm H x ∧ ∀ (bb : Bool) (H' : Hp), (bb = true ↔ isCell H x) → Ext H H' → Q (.bl bb) H'
def spFaces : Sp := fun vs H Q _ => ∃ (c : Addr) (ns : List Int), vs = [.ref c] ∧ H c = some (.tup (ns.map V.int)) ∧ 1 ≤ ns.length ∧ ns.length ≤ 4 ∧ ∀ (f : Addr) (as : List Addr) (H' : Hp), Ext H H' → H' f = some (.lst (as.map V.ref)) → PT2 H' as (facesL ns) → Q (.ref f) H'
structure TowC (mg : Str → Option Value) : Prop where
  mc : ∃ t, mg "MOST_CELLS" = some (.int 40 t)
  mi : ∃ t, mg "MOST_IN_CELL" = some (.int 4 t)
  mn : ∃ t, mg "MOST_NAME" = some (.int 29 t)
  zip : mg "zip" = none
section
variable {P : Program} {w : World} {K : PySem.W.Frag} {mg : Str → Option Value} {base : Heap}
theorem scAsc : FnScope ["most", "thing", "item", "after"] ["most", "thing"] (defScope sAsc) := ⟨rfl, rfl, rfl, by decide +kernel, rfl, by decide +kernel, by decide +kernel⟩
theorem ok_asc {f : Addr} {fd : FuncData} (F : L2.Fun K "is_ascending" "is_ascending" sAsc f fd) (T : Gb mg) (M : TowC mg) (cN : Cal P w K mg base 2 "is_number" (spNumber K) []) : FnOk P w K mg base CX0 3 f fd ["most", "thing"] (spAsc K) := by
  refine F.ok scAsc (fun vs H Q E h => ?_) (fun cdv A outer s H vs Q E hr h => ?_)
  · obtain ⟨x, rfl, _⟩ := h
    rfl
  · obtain ⟨x, rfl, th, sm, k⟩ := h
    unfold Th at th
    obtain ⟨t, ty, ki, kb, kt⟩ := th
    refine ⟨_, pss_cons (ps_if (PW.pt (pw_or (pt_not (pt_val (pe_callB call_isi (by rfl) T.isi (by decide +kernel) (pa_cons (pv 1) (pa_cons (pe_bltn (v := .ty "tuple") (by rfl) T.tup (by decide +kernel) rfl) pa_nil)))))
        (pw_or1 (pt_not (pt_val (pe_callB (cr_all rfl) (by rfl) T.all (by decide +kernel) (pa_cons (pe_lc (own := [("item", 2)]) (g := gName 2) (tt := tYes) rfl scAsc.nd (pi_tup (pv 1)) (blkOk_by (N := ["most", "thing", "item", "after"]) (sc := defScope sAsc) (by decide +kernel)) (fun _ _ _ _ _ => pg_name (i := 2) scAsc.nd rfl (Or.inl rfl)) (fun _ _ _ _ _ => pts_nil)
            (fun _ _ _ _ _ => C8.pe_c cN hr (by decide) (by rfl) (pa_cons (pv 0) (pa_cons (pv 2) pa_nil)))) pa_nil))))))) (pss_one (ps_ret pe_bl)) pss_nil)
      (pss_one (ps_ret (pe_callB (cr_all rfl) (by rfl) T.all (by decide +kernel) (pa_cons (pe_lc (own := [("item", 2), ("after", 3)]) (g := gTup K 2 (gCons (gName 2) (gCons (gName 3) gNil))) (tt := tYes) rfl scAsc.nd (RZ.pi_zipA (by rfl) M.zip (pa_cons (pv 1) (pa_cons (pe_slice sl_tupA (pv 1) (po_some pe_int) po_none) pa_nil))) (blkOk_by (N := ["most", "thing", "item", "after"]) (sc := defScope sAsc) (by decide +kernel))
          (fun _ _ _ _ _ => pg_tup rfl (pgs_cons (pg_name (i := 2) scAsc.nd rfl (Or.inl rfl)) (pgs_cons (pg_name (i := 3) scAsc.nd rfl (Or.inl rfl)) pgs_nil))) (fun _ _ _ _ _ => pts_nil) (fun _ _ _ _ _ => pe_cmpR op_lt (pv 2) (pv 3) (nomark _))) pa_nil)))), ?_⟩
    rcases kt with ⟨kt, nt⟩ | ⟨kt, a, xs, rfl, ha, it⟩
    · refine ⟨_, rfl, x, .ty "tuple", t, .type "tuple", _, rfl, .ty _, ty, kt, _, rfl, ?_⟩
      refine iteT (iteT ?_)
      refine k false H ⟨fun z => Bool.noConfusion z, fun ⟨c, ns, e, hc, _⟩ => by obtain ⟨o, h1, h2⟩ := nt c e; rw [hc] at h1; cases h1; exact absurd rfl (h2 _)⟩ Ext.rfl'
    · refine ⟨_, rfl, _, .ty "tuple", t, .type "tuple", _, rfl, .ty _, ty, kt, _, rfl, ?_⟩
      have len := sm a xs rfl ha
      refine iteF ?_
      refine ⟨_, rfl, a, rfl, ⟨_, SqT.of ha⟩, fun D hD => ?_⟩
      have hda : a ≠ D := ne_of_none ha hD
      refine lc_tup (K := K) (a := a) (xs := xs) (fun i H' => H' = upd H D (.lst (((xs.take i).map (numV 29)).map V.bl))) (by simp) (fun i H' _ e => by subst e; exact SqT.of (by rw [upd_ne hda]; exact ha)) ?_ ?_
      · rintro i y H' hi rfl
        refine ⟨rfl, tyes_in ?_⟩
        have hy : y ∈ xs := List.mem_of_getElem? hi
        have it' : ∀ y ∈ xs, Th K H 0 y := it
        have ty0 : Th K (upd H D (.lst (((xs.take i).map (numV 29)).map V.bl))) 0 y := (it' y hy).ext (Ext.upd hD)
        refine ⟨_, rfl, _, rfl, 29, y, rfl, ty0, _, upd_same, small1000 (by simp; omega), ?_⟩
        rw [upd_upd, List.take_succ, hi]
        simp
      · rintro H' rfl
        rw [List.take_of_length_le (Nat.le_refl _)]
        have e1 : Ext H (upd H D (.lst ((xs.map (numV 29)).map V.bl))) := Ext.upd hD
        have hD1 : (upd H D (.lst ((xs.map (numV 29)).map V.bl))) D = some (.lst ((xs.map (numV 29)).map V.bl)) := upd_same
        generalize upd H D (.lst ((xs.map (numV 29)).map V.bl)) = H1 at *
        cases ball : (xs.map (numV 29)).all id with
        | false =>
          refine ⟨D, _, rfl, SqL.of hD1, false, congrArg V.bl ball, ?_⟩
          refine iteT ?_
          refine k false H1 ⟨fun z => Bool.noConfusion z, fun ⟨c, ns, e, hc, lo⟩ => ?_⟩ e1
          cases e
          rw [ha] at hc
          cases hc
          have : (List.map (numV 29) (List.map V.int ns)).all id = true := List.all_eq_true.mpr fun b hb => by
            obtain ⟨y, hy, rfl⟩ := List.mem_map.mp hb
            obtain ⟨n, hn, rfl⟩ := List.mem_map.mp hy
            exact numV_true.mpr ⟨n, rfl, (lo.1 n hn).1, (lo.1 n hn).2⟩
          rw [this] at ball
          cases ball
        | true =>
          refine ⟨D, _, rfl, SqL.of hD1, true, congrArg V.bl ball, ?_⟩
          refine iteF ?_
          obtain ⟨ns, rfl, low⟩ := low_ints fun y hy => List.all_eq_true.mp ball (numV 29 y) (List.mem_map_of_mem hy)
          refine ⟨_, rfl, _, rfl, 1, rfl, ?_⟩
          dsimp only [tNoPart]
          refine sl_any (K := K) (lo := some 1) (hi := none) (e1 _ _ ha) fun q H2 e3 hq => ?_
          have ct : cutV (ns.map V.int) (some 1) none = ns.tail.map V.int := by
            unfold cutV
            rw [show (1 : Int) = ((1 : Nat) : Int) from rfl, HT.sIx_nat, HT.sIx_none, List.take_of_length_le (by rw [List.length_drop]; exact Nat.le_refl _)]
            cases ns with
            | nil => rfl
            | cons n r =>
              rw [show min 1 (List.map V.int (n :: r)).length = 1 by simp]
              rfl
          rw [ct] at hq
          have ha2 := e3 _ _ (e1 _ _ ha)
          refine ⟨a, q, _, _, rfl, .inr ⟨SqT.of ha2, SqT.of hq, fun D2 nD2 => ?_⟩⟩
          refine lc_zipM (K := K) (a := a) (b := q) (xs := ns.map V.int) (ys := ns.tail.map V.int) (by rw [List.length_map, List.length_map, List.length_tail]; omega) (fun i H' => Ext H2 H' ∧ H' D2 = some (.lst ((((ns.zip ns.tail).take i).map fun p => decide (p.1 < p.2)).map V.bl))) ⟨Ext.upd nD2, upd_same⟩ (fun i H' z => ⟨SqT.of (z.1 _ _ ha2), SqT.of (z.1 _ _ hq)⟩) ?_ ?_
          · rintro i u v t' H' hu hv ⟨ex, hD2⟩ nt'
            obtain ⟨n, hn, rfl⟩ := map_int_get hu
            obtain ⟨m, hm, rfl⟩ := map_int_get hv
            refine ⟨t', _, rfl, SqT.of upd_same, rfl, _, _, rfl, _, _, rfl, rfl, rfl, tyes_in ?_⟩
            have hz : (ns.zip ns.tail)[i]? = some (n, m) := List.getElem?_zip_eq_some.mpr ⟨hn, hm⟩
            have li := (List.getElem?_eq_some_iff.mp hn).1
            rw [List.length_map] at len
            refine ⟨_, rfl, _, rfl, _, _, rfl, rfl, _, Ext.upd nt' _ _ hD2, small1000 (by rw [List.length_map, List.length_map, List.length_take]; omega), fun b' o eo => ?_, ?_⟩
            · rw [upd_ne (ne_of_none eo nD2)]
              exact Ext.upd nt' _ _ (ex _ _ eo)
            · rw [upd_same, List.take_succ, hz, List.map_append, List.map_append]
              rfl
          · rintro H' ⟨ex, hD2⟩
            have lz : (ns.zip ns.tail).length ≤ (ns.tail.map V.int).length := by rw [List.length_zip, List.length_map]; omega
            rw [List.take_of_length_le lz] at hD2
            refine ⟨D2, _, rfl, SqL.of hD2, ?_⟩
            refine k _ H' ?_ (e1.trans (e3.trans ex))
            constructor
            · intro z
              refine ⟨a, ns, rfl, ha, low, (adj_pairwise ns).mp fun p hp => ?_⟩
              have := List.all_eq_true.mp z (decide (p.1 < p.2)) (List.mem_map_of_mem hp)
              exact of_decide_eq_true this
            · rintro ⟨c, ms, e, hc, _, pw⟩
              cases e
              rw [ha] at hc
              injection hc with hc
              injection hc with hc
              rw [← int_inj hc] at pw
              refine List.all_eq_true.mpr fun bb hb => ?_
              obtain ⟨p, hp, rfl⟩ := List.mem_map.mp hb
              exact decide_eq_true ((adj_pairwise ns).mpr pw p hp)
end
end V44

set_option Elab.async false
set_option linter.all false
set_option maxRecDepth 100000
set_option maxHeartbeats 4000000
set_option pp.maxSteps 60
/-! Exceptions and equality of own classes. -/
namespace V44
open PySem L2
section
open PySem.Spec PyProof.Rows
structure ExIs (K : PySem.W.Frag) (C : Addr) : Prop where
  cls : (PySem.W.clsIn K C).isSome = true
  ga : PySem.W.findIn K (.ref C) "__getattribute__" = some (some (.builtin "BaseException.__getattribute__"))
  gt : PySem.W.findIn K (.ref C) "__getattr__" = some none
  sb : PySem.W.subIn K (.ref C) (.type "BaseException") = some true
  ha : PySem.W.findIn K (.ref C) "__class__" = some (some (.builtin "object.__class__"))
  hn : PySem.W.specialIn K (.builtin "object.__class__") "__get__" = some (some (.builtin "getset_descriptor.__get__"))
  ht : PySem.W.takesIn K (.builtin "object.__class__") = some true
  hm : PySem.W.mroIn K C (.type "object") = some true
variable {X : Cx} {pins : List (Addr × Obj)} {σ : L2.St} {H : Hp} {s : Shared} {a C : Addr} {fs : List (Str × V)}
/-- an exception made and kept -/
def tExv (C : Addr) (sp : Sp) (t : TA) : TE := fun σ H Q => t σ H fun vs H1 => vs.length ≤ 1000 ∧ ∀ a, H1 a = none → sp (.ref a :: vs) (upd H1 a (exo a C none)) (fun v H2 => v = .non ∧ Q (.ref a) H2) E0
variable {CX : CXT} {x : Str} {fI : Addr} {k : Nat} {fd : FuncData} {ps : List Str} {sp : Sp} {e : Expr} {es : List Expr} {ta : TA} {p pos : Pos}
theorem run_exv (T : OexC X.K C) (hi : PySem.W.findIn X.K (.ref C) "__init__" = some (some (.ref fI))) (ht : PySem.W.typeIn X.K (.ref fI) = some (.type "function"))
    (G : FnOk X.prog X.w X.K X.mg X.base CX k fI fd ps sp) (hr : Room (k + 1) X.A) (hb : Binds X.K fd ps []) (hx : Passes CX X E0) {vs : List V} {us : List Value} {H1 : Hp} {s1 : Shared} {Q : VK} (I1 : Inv X pins σ H1 s1) (r1 : Vals vs us) (hz : vs.length ≤ 1000)
    (q1 : ∀ a, H1 a = none → sp (.ref a :: vs) (upd H1 a (exo a C none)) (fun v H2 => v = .non ∧ Q (.ref a) H2) E0) : wpAny (model X.prog X.w) X.A (call (.ref C) us) (EP X pins σ Q) X.xe s1 := by
  obtain ⟨_, _, _, _, bm, _, _, _, _, _, _, _, _, _, _, inCls, mroOk⟩ := T.cls
  obtain ⟨h0, gs, dr, tk, os⟩ := s1
  let o := h0.objs.size + 1
  let h1 := (h0.push (PySem.W.kdv_tup us)).push (PySem.HandSPX.excO C h0.objs.size)
  have new : H1 o = none := I1.hok.fresh (Nat.le_succ _)
  have old : ∀ b u, h0.get? b = some u → h1.get? b = some u := fun b u q => Heap.get?_push_of_some _ (Heap.get?_push_of_some _ q)
  have there : h1.get? o = some (PySem.HandSPX.excO C h0.objs.size) := by
    show ((h0.push (PySem.W.kdv_tup us)).push (PySem.HandSPX.excO C h0.objs.size)).get? (h0.objs.size + 1) = _
    heap_get
  have J : Inv X pins σ (upd H1 o (exo o C none)) ⟨h1, gs, dr, tk, os⟩ := I1.laid (t' := tk) old (Nat.le_succ _) (exo_ok there)
  have asked := q1 o new
  have rr : Vals (V.ref o :: vs) (Value.ref o :: us) := .cons rfl r1
  have len : (Value.ref o :: us).length = ps.length := rr.length ▸ G.len _ _ _ _ asked
  have bound := hb _ (Value.ref o :: us) J.kIn (by rw [List.append_nil]; exact len)
  rw [List.append_nil] at bound
  have few : us.length ≤ sizeLine := by
    have q : us.length = vs.length := (Paired.length r1).symm
    rw [q, sizeLine_eq]
    omega
  have body := G.run _ X.stack _ _ ⟨Value.ref o :: us, []⟩ _ _ _ E0 (hr.make C us []) (J.env0.make C us []) bound rr asked
  refine wpAny_call (PySem.HandSPX.call_own F.excBase_ValueError (fun Y => PySem.HandSPX.refsVE_contains Y bm mroOk) (I1.kIn _ _ inCls) (PySem.W.looks_findIn I1.kIn hi) (fun self => PySem.W.bind_fn I1.kIn self ht) few (codeAny_mono body ?_))
  intro out s2 z
  match out, z with
  | .error er, z => exact hx pins σ _ _ er s2 J z
  | .ok (.ret u), z =>
    obtain ⟨v, H2, J2, rv, ev, qq⟩ := J.after z
    subst ev
    exact ⟨rv, .ref o, H2, J2, rfl, qq⟩
  | .ok .next, z => exact z.elim
  | .ok .brk, z => exact z.elim
  | .ok .cont, z => exact z.elim
theorem pe_exv0 (T : OexC X.K C) (iC : PySem.W.findIn X.K (.ref C) "__init__" = some (some (.ref fI))) (tI : PySem.W.typeIn X.K (.ref fI) = some (.type "function"))
    (F1 : FnOk X.prog X.w X.K X.mg X.base CX k fI fd ps sp) (hr : Room (k + 1) X.A) (hb : Binds X.K fd ps []) (hx : Passes CX X E0) (hg : Gl X x) (hm : X.mg x = some (.ref C))
    (hdb : (x == ("__debug__" : Str)) = false := by decide) :
    PE X (.Call (.Name x p) [] [] pos) (tExv C sp tNil) := by
  refine ⟨fun pins s σ H Q I h => ?_⟩
  refine wpAny_Call_Name_kw (ld_glob I hg hm ?_ hdb)
  obtain ⟨hz, q1⟩ := h
  exact PySem.W.callWith_K0 I.kIn T.kC (run_exv (us := []) T iC tI F1 hr hb hx I .nil hz q1)
end
section
open PySem.Spec PyProof.Rows
/-- raising an exception without fields that has just been made -/
theorem pmk_v {X : Cx} {e : Expr} {te : TE} (none' : X.ex = []) (he : PE X e te) :
    PMk X e (fun τ H Q => te τ H fun x J => ∃ a C, x = .ref a ∧ J a = some (exo a C none) ∧ X.H_0 a = none ∧ OexC X.K C ∧ Q (.ref C) none (delH J a)) := by
  intro pins s τ H Q I want
  refine thn (he.run pins s τ H _ I want) fun u s1 ⟨v, J, I1, r, a, C, ex, ha, h0, T, z⟩ => ?_
  subst ex
  obtain rfl : u = Value.ref a := r
  obtain ⟨t1, there⟩ := exo_at I1.hok ha
  obtain ⟨G, le, gone, I2⟩ := I1.untrack ha (fr0_none h0) none'
  exact ⟨a, _, _, { s1 with heap := G }, delH J a, .ref C, none, rfl, I2, le, gone, there, ⟨rfl, rfl⟩, rfl, rfl, delH_same, rfl, I1.bare, raises_own T.exC T.tyC, z⟩
theorem ps_raise_v {X : Cx} {pos : Pos} (H0 : Hp) (K0 : PySem.W.Frag) {W : WX} {e : Expr} {te : TE} (tk : Takes X W) (e0 : X.H_0 = H0) (eK : X.K = K0) (he : PE X e te) (calm : X.calm = true := by rfl) (none' : X.ex = [] := by rfl) :
    PS X (.Raise (some e) none pos) (fun _ τ H => te τ H fun x J => ∃ a C, x = .ref a ∧ J a = some (exo a C none) ∧ H0 a = none ∧ OexC K0 C ∧ W (.ref C) none τ (delH J a)) := by
  subst e0 eK
  exact ps_raise calm tk (pmk_v none' he)
end
section
open PySem.Spec PyProof.Rows
abbrev Clause := Value × (Addr → Value → Option Addr → TS)
/-- the ends of a suite whose name stands in slot i: the slot is empty behind it -/
def offSlot (i : Nat) (D : Ends) : Ends := { nx := fun τ J => D.nx (τ.set i none) J, rt := D.rt, bk := fun τ J => D.bk (τ.set i none) J, ct := fun τ J => D.ct (τ.set i none) J }
/-- what clauses 'except .. as name' wish of an exception, from the first on -/
def wEach (K : PySem.W.Frag) (i : Nat) (D : Ends) : List Clause → WX
  | [] => fun _ _ _ _ => False
  | q :: r => fun cls d τ J => ∃ b, PySem.W.exmOne K cls q.1 = some b ∧ if b = true then ∀ a, J a = none → q.2 a cls d (offSlot i D) (τ.set i (some (.ref a))) J else wEach K i D r cls d τ J
inductive EachOk (X : Cx) (n : Str) : List ExceptHandler → List Clause → Prop
  | nil {hs : List ExceptHandler} : EachOk X n hs []
  | cons {x : Str} {k : Value} {ts : Addr → Value → Option Addr → TS} {st : Stmt} {rest : List Stmt} {p p' : Pos} {hs : List ExceptHandler} {qs : List Clause} (names : Names X x k)
      (suite : ∀ (a : Addr) (oe : Obj) (cls : Value) (d : Option Addr) (pn : List (Addr × Obj)), Zc cls d oe → (∃ vs, oe.data = .fields vs) → PSs (X.suite a ((a, oe) :: pn)) (st :: rest) (ts a cls d)) (more : EachOk X n hs qs) :
      EachOk X n (.ExceptHandler (some (.Name x p)) (some n) (st :: rest) p' :: hs) ((k, ts) :: qs)
variable {X : Cx} {body : List Stmt} {hs : List ExceptHandler} {h0 : ExceptHandler} {qs : List Clause} {n : Str} {i : Nat} {pos : Pos} {tb : WX → TS}
theorem ps_try_each (stk : X.stack = X.env :: X.outer) (frm : X.env.frame = some X.env.locals) (nd : X.N.Nodup) (hi : X.N[i]? = some n) (loc : X.env.kindOf n = some .local)
    (hb : ∀ (W : WX) (pn : List (Addr × Obj)) (xe : Value → Shared → Prop), Takes (X.tr pn xe) W → PassesOwn (model X.prog X.w) X.A X.env xe → PSs (X.tr pn xe) body (tb W)) (hk : EachOk X n (h0 :: hs) qs) :
    PS X (.Try body (h0 :: hs) [] [] pos) (fun D τ J => tb (wEach X.K i D qs) D τ J) := by
  constructor
  intro pins s τ H D I want
  have ok := I.ok
  have top : X.A.frames = some (X.env :: X.outer) := by rw [ok.frames, stk]
  refine wpAny_Try_except (wpAny_mono ((hb (wEach X.K i D qs) (X.pn ++ pins) _ (fun u s' caught => ?_) PassesOwn.looking).run [] s τ H D (I.toTry _) want) ?_ fun _ _ z => z)
  · obtain ⟨a, B, sI, pins', τ', H', cls, d, rfl, J0, nb, up, sky, na, os, bare, wish⟩ := caught
    have J := J0.ofTry ok
    rw [stk] at sky
    show wpAny _ _ (noteFrame (.ref a) X.env) _ _ _
    refine Sky.land Zc.steady top frm sky fun h3 fl3 up3 => ?_
    have J3 : Inv X pins τ' H' { s' with heap := h3 } := J.landed nb fl3.1 (up.trans up3) os bare
    obtain ⟨oe3, vs3, at3, z3, f3⟩ := fl3.there
    have off : a ∉ frs (X.env :: X.outer) := fun hm => by
      obtain ⟨_, o', q', nf⟩ := fl3.2.2.1.mem hm
      rw [at3] at q'
      cases q'
      exact nf _ f3
    have aL : a ≠ X.env.locals := fun q => off (List.mem_filterMap.mpr ⟨X.env, List.mem_cons_self, by rw [frm, q]⟩)
    have aF : a ∉ X.fs := fun hm => by
      obtain ⟨e, he, q⟩ := List.mem_filterMap.mp hm
      exact off (List.mem_filterMap.mpr ⟨e, List.mem_cons_of_mem _ he, q⟩)
    have S3 := J3.suite at3 f3 na aL aF
    suffices each : ∀ {ks : List ExceptHandler} {ls : List Clause}, EachOk X n ks ls → wEach X.K i D ls cls d τ' H' → wpAny (model X.prog X.w) X.A (handleBy (.ref a) X.env ks) (SP X pins D) X.xe { s' with heap := h3 } from each hk wish
    intro ks ls hk
    induction hk with
    | nil => exact fun z => z.elim
    | @cons x kk ts st rest p p' ks2 ls2 names suite more ih =>
      rintro ⟨b, isOne, next⟩
      have ty : PySem.W.Looks (model X.prog X.w) h3 (typeOf (.ref a)) cls := fun A Q E s k q => wpAny_typeOf_ref (k _ _ at3) (by rw [z3.1]; exact q)
      have exm := PySem.W.exm_one (M := model X.prog X.w) J3.kIn ty isOne
      have reads : ∀ {Q : Value → Shared → Prop} {E : Value → Shared → Prop}, Q kk { s' with heap := h3 } → wpAny (model X.prog X.w) (X.A.mark (some (.ref a))) (eval (.Name x p) X.env) Q E { s' with heap := h3 } := fun {Q E} z => by
        obtain ⟨gl, nodbg, m | ⟨m, v, nn⟩⟩ := names
        · exact ld_glob (X := X.suite a ((a, oe3) :: (X.pn ++ pins))) S3 gl m z nodbg
        · exact ld_blt (X := X.suite a ((a, oe3) :: (X.pn ++ pins))) S3 gl m v z nn nodbg
      refine wpAny_handleBy_cons (codeAny_handlers_test (reads (exm.here ?_))) (by intro z; cases z)
      cases b with
      | false => exact ih next
      | true =>
        refine codeAny_handlers_suite_as (HandSPX.lands_againZ fl3 fun h4 fl4 up4 => ?_)
        have J4 : Inv X pins τ' H' { s' with heap := h4 } := J.landed nb fl4.1 ((up.trans up3).trans up4) os bare
        obtain ⟨oe4, vs4, at4, z4, f4⟩ := fl4.there
        have S4 := J4.suite at4 f4 na aL aF
        refine store_ok (X := X.suite a ((a, oe4) :: (X.pn ++ pins))) (v := .ref a) S4 nd hi (.inl loc) rfl (fun s5 S5 => ?_) (.inr loc)
        refine wpAny_mono ((suite a oe4 cls d (X.pn ++ pins) z4 ⟨_, f4⟩).run [] s5 _ H' _ S5 (next a na)) (fun f s6 fin => ?_) fun _ _ z => z.elim
        have gone : ∀ {τ6 : L2.St} {H6 : Hp} {Q : Shared → Prop}, Inv (X.suite a ((a, oe4) :: (X.pn ++ pins))) [] τ6 H6 s6 → (∀ s7, Inv X pins (τ6.set i none) H6 s7 → Q s7) →
            wpAny (model X.prog X.w) X.A (do bindName X.env n .none; unbindBehindTheSuite X.env n p') (fun _ s7 => Q s7) X.xe s6 := fun S6 k => gone_ok (S6.unsuite ok) nd hi loc k
        match f, fin with
        | .next, ⟨τ6, H6, S6, z⟩ => exact gone S6 fun s7 J7 => ⟨_, _, J7, z⟩
        | .brk, ⟨τ6, H6, S6, z⟩ => exact gone S6 fun s7 J7 => ⟨_, _, J7, z⟩
        | .cont, ⟨τ6, H6, S6, z⟩ => exact gone S6 fun s7 J7 => ⟨_, _, J7, z⟩
        | .ret u, ⟨v6, τ6, H6, S6, r6, z⟩ => exact gone S6 fun s7 J7 => ⟨_, _, _, J7, r6, z⟩
  · intro f s1 fin
    match f, fin with
    | .next, ⟨τ', H', J', z⟩ => exact wpAny_execs_nil ⟨τ', H', J'.ofTry ok, z⟩
    | .brk, ⟨τ', H', J', z⟩ => exact ⟨τ', H', J'.ofTry ok, z⟩
    | .cont, ⟨τ', H', J', z⟩ => exact ⟨τ', H', J'.ofTry ok, z⟩
    | .ret u, ⟨v, τ', H', J', r, z⟩ => exact ⟨v, τ', H', J'.ofTry ok, r, z⟩
end
section
open PySem.Spec PyProof.Rows
variable {X : Cx} {CX : CXT} {k : Nat} {f C : Addr} {fd : FuncData} {ps : List Str} {sp : Sp} {E : L2.St → XK} {x : Str} {p pos : Pos} {e : Expr} {es : List Expr} {t : TA}
def tMakeS (C : Addr) (sp : Sp) (E : L2.St → XK) (t : TA) : TE := fun σ H Q => t σ H fun vs H1 => ∀ (o d : Addr), H1 o = none → H1 d = none → d ≠ o → sp (.ref o :: vs) (upd (upd H1 d (.own o)) o (.ins C d [])) (fun v H2 => v = .non ∧ Q (.ref o) H2) (E σ)
theorem pe_makeS (M : Mk X.K C f) (F : FnOk X.prog X.w X.K X.mg X.base CX k f fd ps sp) (hr : Room (k + 1) X.A) (hg : Gl X x) (hm : X.mg x = some (.ref C)) (hb : Binds X.K fd ps []) (hx : ∀ σ, PassesAt CX X σ (E σ))
    (ha : PA X (e :: es) t) (hdb : (x == ("__debug__" : Str)) = false := by decide) (he : starEach (e :: es) X.env = (false, eval e X.env) :: starEach es X.env := by rfl) (hpl : (backTo pos (starEach es X.env)).any (·.1) = false := by rfl) :
    PE X (.Call (.Name x p) (e :: es) [] pos) (tMakeS C sp E t) := by
  constructor
  intro pins s σ H Q I h
  refine wpAny_Call_Name_kw (ld_glob I hg hm ?_ hdb)
  refine PySem.W.callWith_K (h₀ := X.base) I.ok.mod.kin M.kp (thn (ha.run pos pins s σ H _ I h) ?_) he hpl
  rintro us s1 ⟨vs, H1, I1, r, q⟩
  refine ⟨I1.kIn, ?_⟩
  let o := s1.heap.objs.size + 1
  have q' := q o s1.heap.objs.size (I1.hok.fresh (Nat.le_succ _)) (I1.hok.fresh (Nat.le_refl _)) (Nat.ne_of_lt (Nat.lt_succ_self _))
  have J := Inv.made (C := C) I1
  have rr : Vals (V.ref o :: vs) (Value.ref o :: us) := .cons rfl r
  have len : (Value.ref o :: us).length = ps.length := rr.length ▸ F.len _ _ _ _ q'
  have bind := hb _ (Value.ref o :: us) J.kIn (by rw [List.append_nil]; exact len)
  rw [List.append_nil] at bind
  refine wpAny_call (make_map (f := f) I1.kIn M.makes M.init (beq_iff_eq.mp M.fn) (codeAny_mono (F.run _ X.stack _ _ ⟨Value.ref o :: us, []⟩ _ _ _ (E σ) (hr.make C us []) (J.env0.make C us []) bind rr q') ?_))
  intro out s2 z
  match out, z with
  | .error er, z => exact hx σ pins _ _ er s2 J z
  | .ok (.ret u), z =>
    obtain ⟨v, H2, J2, rv, ev, qq⟩ := J.after z
    subst ev
    exact ⟨rv, .ref o, H2, J2, rfl, qq⟩
  | .ok .next, z => exact z.elim
  | .ok .brk, z => exact z.elim
  | .ok .cont, z => exact z.elim
end
structure BadC (K : PySem.W.Frag) (mg : Str → Option Value) (C fI : Addr) : Prop where
  ex : OexC K C
  iC : PySem.W.findIn K (.ref C) "__init__" = some (some (.ref fI))
  tI : PySem.W.typeIn K (.ref fI) = some (.type "function")
  gC : mg "BadTower" = some (.ref C)
  noI : PySem.W.findIn K (.ref C) "index" = some none
def spBad (C : Addr) : Sp := fun vs H Q _ => ∃ (a : Addr) (v : V), vs = [.ref a, v] ∧ H a = some (exo a C none) ∧ ∀ d, H d = none → d ≠ a → Q .non (upd (upd H d (exd d [("index", v)])) a (exo a C (some d)))
/-- what is left behind a raise BadTower(v) -/
theorem bad_end {H : Hp} {C a d : Addr} {v : V} (na : H a = none) (nd : (upd H a (exo a C none)) d = none) (ne : d ≠ a) :
    let H2 := upd (upd (upd H a (exo a C none)) d (exd d [("index", v)])) a (exo a C (some d))
    H2 a = some (exo a C (some d)) ∧ H2 d = some (exd d [("index", v)]) ∧ H d = none ∧ Ext H (upd (del H2 a) d (.xd [("index", v)])) := by
  have nd0 : H d = none := by rw [upd_ne ne] at nd; exact nd
  refine ⟨upd_same, by rw [upd_ne ne, upd_same], nd0, fun b o e => ?_⟩
  have h1 := ne_of_none e na
  have h2 := ne_of_none e nd0
  rw [upd_ne h2, del_ne h1, upd_ne h1, upd_ne h2, upd_ne h1]
  exact e
/-! ### == by an own __eq__ -/
section
open PySem.Spec PyProof.Rows
variable {X : Cx} {CX : CXT} {k : Nat} {f C : Addr} {fd : FuncData} {ps : List Str} {sp : Sp}
def rOwn (K : PySem.W.Frag) (C : Addr) (sp : Sp) : R2 := fun x y H Q => ∃ (a dx : Addr) (fs : List (Str × V)) (t : Value), x = .ref a ∧ H a = some (.ins C dx fs) ∧ TyX K H y t ∧ PySem.W.notFirst K C t = true ∧ sp [x, y] H (fun v H' => (∃ b, v = .bl b) ∧ Q v H') E0
theorem op_own (F : FnOk X.prog X.w X.K X.mg X.base CX0 k f fd ps sp) (hs : PySem.W.findIn X.K (.ref C) "__eq__" = some (some (.ref f))) (hf : PySem.W.isFn X.K (.ref f) = true) (hb : Binds X.K fd ps []) (hr : Room k X.A) : OpR X (compareOp .Eq) (rOwn X.K C sp) := by
  rintro pins s σ H x y v u Q I rx ry ⟨a, dx, fs, t, rfl, ha, ty, nf, q⟩
  obtain rfl : v = Value.ref a := rx
  obtain ⟨mA, J, _⟩ := ins_get I.hok ha
  obtain ⟨od, J, _⟩ := J.look
  obtain ⟨G, Z, g, _⟩ := kit_of I ry ty
  obtain ⟨m, fr⟩ := I.fr
  show wpAny (model X.prog X.w) X.A (richCompare .Eq (.ref a) u) (EP X pins σ Q) X.xe s
  refine PySem.W.cmp_K (op := .Eq) (tb := t) hr.units0 fr I.ok.mod.kin J (Z.ty _ _ I.kIn g) nf hs hf ?_
  refine wpAny_mono (run_fn (vs := [V.ref a, y]) F hr hb .nil pass0 I (.cons rfl (.cons ry .nil)) (show sp ([V.ref a, y] ++ []) H _ E0 from q)) ?_ fun _ _ x => x
  rintro w s' ⟨z, H', I', rz, ⟨b, rfl⟩, qz⟩
  cases rz
  exact ⟨.bl b, H', I', rfl, qz⟩
end
/-- what isinstance asks of a class for its instances -/
structure IsC (K : PySem.W.Frag) (C : Addr) : Prop where
  cl : Cls K C
  ha : PySem.W.findIn K (.ref C) "__class__" = some (some (.builtin "object.__class__"))
  hn : PySem.W.specialIn K (.builtin "object.__class__") "__get__" = some (some (.builtin "getset_descriptor.__get__"))
  ht : PySem.W.takesIn K (.builtin "object.__class__") = some true
  hm : PySem.W.mroIn K C (.type "object") = some true
theorem IsC.ty {K : PySem.W.Frag} {C : Addr} (I : IsC K C) {H : Hp} {p dx : Addr} {fs : List (Str × V)} (h : H p = some (.ins C dx fs)) : TyX K H (.ref p) (.ref C) := .base (.ins h I.cl I.ha I.hn I.ht I.hm)
theorem kit_same {K : PySem.W.Frag} {C : Addr} : PySem.W.kitOne K (.ref C) (.ref C) = some true := by
  unfold PySem.W.kitOne
  rw [if_pos (beq_self_eq_true _)]
def spF0 : Sp := fun vs H Q _ => ∃ a : Addr, vs = [.ref a] ∧ Q .non H
/-- an error class without fields: what the top has written of it -/
structure ErrC (K : PySem.W.Frag) (mg : Str → Option Value) (x : Str) (C fI : Addr) : Prop where
  ex : OexC K C
  iC : PySem.W.findIn K (.ref C) "__init__" = some (some (.ref fI))
  tI : PySem.W.typeIn K (.ref fI) = some (.type "function")
  gC : mg x = some (.ref C)
  is : ExIs K C
theorem ext_delH {H H1 : Hp} {a : Addr} {o : HO} (e : Ext H H1) (na : H1 a = none) : Ext H (delH (upd H1 a o) a) := fun b u h => by
  have h1 := e _ _ h
  have ne := ne_of_none h1 na
  unfold delH
  rw [if_neg ne, upd_ne ne]
  exact h1
theorem none_back {H H1 : Hp} {a : Addr} (e : Ext H H1) (na : H1 a = none) : H a = none := by
  cases q : H a with
  | none => rfl
  | some u => rw [e _ _ q] at na; cases na
/-- a raise of a class without fields -/
theorem raise0 {K : PySem.W.Frag} {mg : Str → Option Value} {C : Addr} {x : Str} {fI : Addr} (N : ErrC K mg x C fI) {H H1 : Hp} {E : XK} {τ : L2.St} (e : Ext H H1) (k : ∀ H', Ext H H' → E (.ref C) none H') :
    tExv C spF0 tNil τ H1 (fun x J => ∃ a C', x = .ref a ∧ J a = some (exo a C' none) ∧ H a = none ∧ OexC K C' ∧ E (.ref C') none (delH J a)) :=
  ⟨Nat.zero_le _, fun a na => ⟨a, rfl, rfl, a, C, rfl, upd_same, none_back e na, N.ex, k _ (ext_delH e na)⟩⟩
theorem u65 {k : Nat} {A : Around} (r : Room k A) : A.units + 65 < cLine := by
  have := r.un
  omega
end V44

set_option Elab.async false
set_option linter.all false
set_option maxRecDepth 100000
set_option maxHeartbeats 4000000
set_option pp.maxSteps 60
namespace V44
open PySem L2
section
variable {P : Program} {w : World} {K : PySem.W.Frag} {mg : Str → Option Value} {base : Heap}
theorem scCell : FnScope ["thing"] ["thing"] (defScope sCell) := ⟨rfl, rfl, rfl, by decide +kernel, rfl, by decide +kernel, by decide +kernel⟩
theorem ok_cell {f : Addr} {fd : FuncData} (F : L2.Fun K "is_cell" "is_cell" sCell f fd) (T : Gb mg) (M : TowC mg) (cA : Cal P w K mg base 3 "is_ascending" (spAsc K) []) : FnOk P w K mg base CX0 4 f fd ["thing"] (spCell K) := by
  obtain ⟨t29, h29⟩ := M.mn
  obtain ⟨t4, h4⟩ := M.mi
  refine F.ok scCell (fun vs H Q E h => ?_) (fun cdv A outer s H vs Q E hr h => ?_)
  · obtain ⟨x, rfl, _⟩ := h
    rfl
  · obtain ⟨x, rfl, th, sm, k⟩ := h
    refine ⟨_, pss_one (ps_ret (pe_and (C8.pe_c cA hr (by decide) (by rfl) (pa_cons (pe_glob (v := .int 29) rfl h29 ⟨_, rfl⟩) (pa_cons (pv 0) pa_nil))) (pe_one (pe_chain op_le op_le pe_int (pe_callB call_len_seq (by rfl) T.len PySem.boot_len (pa_cons (pv 0) pa_nil)) (pe_glob (v := .int 4) rfl h4 ⟨_, rfl⟩))))), ?_⟩
    refine ⟨_, rfl, x, rfl, th, sm, fun bb H1 hb e1 => ⟨_, rfl, ?_⟩⟩
    cases bb with
    | false => exact iteF (k false H1 ⟨fun z => Bool.noConfusion z, fun ⟨c, ns, e, hc, z⟩ => by have := hb.mpr ⟨c, ns, e, hc, z.2.2⟩; cases this⟩ e1)
    | true =>
      obtain ⟨c, ns, rfl, hc, low⟩ := hb.mp rfl
      refine iteT ⟨_, rfl, c, _, rfl, .inr (SqT.of (e1 _ _ hc)), _, _, rfl, rfl, _, rfl, ?_⟩
      rw [List.length_map]
      by_cases h1 : (1 : Int) ≤ (ns.length : Int)
      · rw [decide_eq_true h1]
        refine iteT ⟨_, _, rfl, rfl, ?_⟩
        refine k _ H1 ?_ e1
        constructor
        · intro z
          exact ⟨c, ns, rfl, hc, by omega, by have := of_decide_eq_true z; omega, low⟩
        · rintro ⟨c', ns', e, hc', z⟩
          cases e
          rw [hc] at hc'
          injection hc' with hc'
          injection hc' with hc'
          rw [← int_inj hc'] at z
          exact decide_eq_true (by have := z.2.1; omega)
      · rw [decide_eq_false h1]
        refine iteF (k false H1 ⟨fun z => Bool.noConfusion z, fun ⟨c', ns', e, hc', z⟩ => ?_⟩ e1)
        cases e
        rw [hc] at hc'
        injection hc' with hc'
        injection hc' with hc'
        rw [← int_inj hc'] at z
        exact absurd (by have := z.1; omega) h1
theorem scFaces : FnScope ["cell", "at"] ["cell"] (defScope sFaces) := ⟨rfl, rfl, rfl, by decide +kernel, rfl, by decide +kernel, by decide +kernel⟩
theorem ok_faces {f : Addr} {fd : FuncData} (F : L2.Fun K "faces" "faces" sFaces f fd) (T : Gb mg) : FnOk P w K mg base CX0 1 f fd ["cell"] spFaces := by
  refine F.ok scFaces (fun vs H Q E h => ?_) (fun cdv A outer s H vs Q E hr h => ?_)
  · obtain ⟨c, ns, rfl, _⟩ := h
    rfl
  · obtain ⟨c, ns, rfl, hc, n1, n4, k⟩ := h
    refine ⟨_, pss_cons (ps_if (pt_cmpR op_eq (pe_callB call_len_seq (by rfl) T.len PySem.boot_len (pa_cons (pv 0) pa_nil)) pe_int (nomark _)) (pss_one (ps_ret (pe_lst pa_nil))) pss_nil)
      (pss_one (ps_ret (pe_lc (own := [("at", 1)]) (g := gName 1) (tt := tYes) (te := tOp (rCatA K) (tSl (rSlA K) (tVar 0) tNoPart (tPart (tVar 1))) (tSl (rSlA K) (tVar 0) (tPart (tOp (rI0 fun i j => V.int (i + j)) (tVar 1) (tC (V.int 1)))) tNoPart)) rfl scFaces.nd (pi_range1 (by rfl) T.rng (pa_cons (pe_callB call_len_seq (by rfl) T.len PySem.boot_len (pa_cons (pv 0) pa_nil)) pa_nil)) (blkOk_by (N := ["cell", "at"]) (sc := defScope sFaces) (by decide +kernel))
          (fun _ _ _ _ _ => pg_name (i := 1) scFaces.nd rfl (Or.inl rfl)) (fun _ _ _ _ _ => pts_nil) (fun _ _ _ _ _ => pe_op op_catA (pe_slice sl_tupA (pv 0) po_none (po_some (pv 1))) (pe_slice sl_tupA (pv 0) (po_some (pe_op op_add (pv 1) pe_int)) po_none))))), ?_⟩
    refine ⟨_, rfl, c, _, rfl, .inr (SqT.of hc), rfl, _, rfl, ?_⟩
    refine ite2 (fun z => ?_) (fun z => ?_)
    · have e : ns.length = 1 := by have q := of_decide_eq_true z; rw [List.length_map] at q; injection q with q; omega
      refine ⟨Nat.zero_le _, fun l nl => ?_⟩
      refine k l [] _ (Ext.upd nl) upd_same ?_
      unfold facesL
      rw [if_pos e]
      exact .nil
    · have hne : ¬ ns.length = 1 := fun q => z (decide_eq_true (by rw [List.length_map, q]; rfl))
      refine ⟨_, rfl, c, _, rfl, .inr (SqT.of hc), (ns.length : Int), by rw [List.length_map], by omega, by omega, fun D nD => ?_⟩
      refine lc_range (lo := 0) (n := (ns.length : Int).toNat) (fun i H' => Ext H H' ∧ ∃ as : List Addr, H' D = some (.lst (as.map V.ref)) ∧ PT2 H' as ((allF ns).take i) ∧ as.length = i) ⟨Ext.upd nD, [], upd_same, .nil, rfl⟩ ?_ ?_
      · rintro i H' hi ⟨ex, as, hD, pt, le⟩
        have hi' : i < ns.length := by rw [Int.toNat_natCast] at hi; exact hi
        refine ⟨rfl, tyes_in ?_⟩
        have hc' := ex _ _ hc
        refine ⟨_, rfl, _, rfl, 0 + (i : Int), rfl, ?_⟩
        refine sl_any (K := K) (lo := none) (hi := some (0 + (i : Int))) hc' fun q1 H1 e1 h1 => ?_
        refine ⟨_, rfl, _, rfl, _, _, rfl, rfl, 0 + (i : Int) + 1, rfl, ?_⟩
        dsimp only [tNoPart]
        refine sl_any (K := K) (lo := some (0 + (i : Int) + 1)) (hi := none) (e1 _ _ hc') fun q2 H2 e2 h2 => ?_
        have l1 := cutV_length (ns.map V.int) none (some (0 + (i : Int)))
        have l2 := cutV_length (ns.map V.int) (some (0 + (i : Int) + 1)) none
        rw [List.length_map] at l1 l2
        refine cat_any (e2 _ _ h1) h2 (by omega) fun q3 H3 e3 h3 => ?_
        have e13 := e1.trans (e2.trans e3)
        rw [Int.zero_add, cut_erase hi'] at h3
        refine ⟨_, e13 _ _ hD, small1000 (by rw [List.length_map]; omega), fun b' o eo => ?_, as ++ [q3], ?_, ?_, by rw [List.length_append, le]; rfl⟩
        · rw [upd_ne (ne_of_none eo nD)]
          exact e13 _ _ (ex _ _ eo)
        · rw [upd_same, List.map_append]
          rfl
        · have hD3 := e13 _ _ hD
          rw [List.take_succ, allF_get hi']
          refine PT2.snoc (PT2.mono (fun b xs z => ?_) pt) ?_
          · rw [upd_ne (lst_ne hD z)]
            exact e13 _ _ z
          · rw [upd_ne (lst_ne hD3 h3)]
            exact h3
      · rintro H' ⟨ex, as, hD, pt, le⟩
        have la : (allF ns).length = (ns.length : Int).toNat := by unfold allF; rw [List.length_map, List.length_range, Int.toNat_natCast]
        rw [← la, List.take_of_length_le (Nat.le_refl _)] at pt
        have e : facesL ns = allF ns := by unfold facesL allF; rw [if_neg hne]
        rw [← e] at pt
        exact k D as H' ex hD pt
theorem scLFaces : FnScope ["_law_cell", "_law_at"] ["_law_cell"] (defScope sLFaces) := ⟨rfl, rfl, rfl, by decide +kernel, rfl, by decide +kernel, by decide +kernel⟩
theorem ok_lfaces {f : Addr} {fd : FuncData} (F : L2.Fun K "_law_faces" "_law_faces" sLFaces f fd) (T : Gb mg) : FnOk P w K mg base CX0 1 f fd ["_law_cell"] spFaces := by
  refine F.ok scLFaces (fun vs H Q E h => ?_) (fun cdv A outer s H vs Q E hr h => ?_)
  · obtain ⟨c, ns, rfl, _⟩ := h
    rfl
  · obtain ⟨c, ns, rfl, hc, n1, n4, k⟩ := h
    refine ⟨_, pss_one (ps_ret (pe_ifExp (pt_cmpR op_gt (pe_callB call_len_seq (by rfl) T.len PySem.boot_len (pa_cons (pv 0) pa_nil)) pe_int (nomark _))
      (pe_lc (own := [("_law_at", 1)]) (g := gName 1) (tt := tYes) (te := tOp (rCatA K) (tSl (rSlA K) (tVar 0) tNoPart (tPart (tVar 1))) (tSl (rSlA K) (tVar 0) (tPart (tOp (rI0 fun i j => V.int (i + j)) (tVar 1) (tC (V.int 1)))) tNoPart)) rfl scLFaces.nd (pi_range1 (by rfl) T.rng (pa_cons (pe_callB call_len_seq (by rfl) T.len PySem.boot_len (pa_cons (pv 0) pa_nil)) pa_nil)) (blkOk_by (N := ["_law_cell", "_law_at"]) (sc := defScope sLFaces) (by decide +kernel))
          (fun _ _ _ _ _ => pg_name (i := 1) scLFaces.nd rfl (Or.inl rfl)) (fun _ _ _ _ _ => pts_nil) (fun _ _ _ _ _ => pe_op op_catA (pe_slice sl_tupA (pv 0) po_none (po_some (pv 1))) (pe_slice sl_tupA (pv 0) (po_some (pe_op op_add (pv 1) pe_int)) po_none)))
      (pe_lst pa_nil))), ?_⟩
    refine ⟨_, rfl, c, _, rfl, .inr (SqT.of hc), _, _, rfl, rfl, _, rfl, ?_⟩
    refine ite2 (fun z => ?_) (fun z => ?_)
    · have hne : ¬ ns.length = 1 := by have q := of_decide_eq_true z; rw [List.length_map] at q; omega
      refine ⟨_, rfl, c, _, rfl, .inr (SqT.of hc), (ns.length : Int), by rw [List.length_map], by omega, by omega, fun D nD => ?_⟩
      refine lc_range (lo := 0) (n := (ns.length : Int).toNat) (fun i H' => Ext H H' ∧ ∃ as : List Addr, H' D = some (.lst (as.map V.ref)) ∧ PT2 H' as ((allF ns).take i) ∧ as.length = i) ⟨Ext.upd nD, [], upd_same, .nil, rfl⟩ ?_ ?_
      · rintro i H' hi ⟨ex, as, hD, pt, le⟩
        have hi' : i < ns.length := by rw [Int.toNat_natCast] at hi; exact hi
        refine ⟨rfl, tyes_in ?_⟩
        have hc' := ex _ _ hc
        refine ⟨_, rfl, _, rfl, 0 + (i : Int), rfl, ?_⟩
        refine sl_any (K := K) (lo := none) (hi := some (0 + (i : Int))) hc' fun q1 H1 e1 h1 => ?_
        refine ⟨_, rfl, _, rfl, _, _, rfl, rfl, 0 + (i : Int) + 1, rfl, ?_⟩
        dsimp only [tNoPart]
        refine sl_any (K := K) (lo := some (0 + (i : Int) + 1)) (hi := none) (e1 _ _ hc') fun q2 H2 e2 h2 => ?_
        have l1 := cutV_length (ns.map V.int) none (some (0 + (i : Int)))
        have l2 := cutV_length (ns.map V.int) (some (0 + (i : Int) + 1)) none
        rw [List.length_map] at l1 l2
        refine cat_any (e2 _ _ h1) h2 (by omega) fun q3 H3 e3 h3 => ?_
        have e13 := e1.trans (e2.trans e3)
        rw [Int.zero_add, cut_erase hi'] at h3
        refine ⟨_, e13 _ _ hD, small1000 (by rw [List.length_map]; omega), fun b' o eo => ?_, as ++ [q3], ?_, ?_, by rw [List.length_append, le]; rfl⟩
        · rw [upd_ne (ne_of_none eo nD)]
          exact e13 _ _ (ex _ _ eo)
        · rw [upd_same, List.map_append]
          rfl
        · have hD3 := e13 _ _ hD
          rw [List.take_succ, allF_get hi']
          refine PT2.snoc (PT2.mono (fun b xs z => ?_) pt) ?_
          · rw [upd_ne (lst_ne hD z)]
            exact e13 _ _ z
          · rw [upd_ne (lst_ne hD3 h3)]
            exact h3
      · rintro H' ⟨ex, as, hD, pt, le⟩
        have la : (allF ns).length = (ns.length : Int).toNat := by unfold allF; rw [List.length_map, List.length_range, Int.toNat_natCast]
        rw [← la, List.take_of_length_le (Nat.le_refl _)] at pt
        have e : facesL ns = allF ns := by unfold facesL allF; rw [if_neg hne]
        rw [← e] at pt
        exact k D as H' ex hD pt
    · have e : ns.length = 1 := by
        have q : ¬ (1 : Int) < ((ns.map V.int).length : Int) := fun q => z (decide_eq_true q)
        rw [List.length_map] at q
        omega
      refine ⟨Nat.zero_le _, fun l nl => ?_⟩
      refine k l [] _ (Ext.upd nl) upd_same ?_
      unfold facesL
      rw [if_pos e]
      exact .nil
theorem isCell_len {H : Hp} {a : Addr} {xs : List V} (ha : H a = some (.tup xs)) (h : isCell H (.ref a)) : 1 ≤ xs.length ∧ xs.length ≤ 4 := by
  obtain ⟨c, ns, e, hc, z⟩ := h
  cases e
  rw [ha] at hc
  cases hc
  rw [List.length_map]
  exact ⟨z.1, z.2.1⟩
end
end V44

set_option Elab.async false
set_option linter.all false
set_option maxRecDepth 100000
set_option maxHeartbeats 4000000
set_option pp.maxSteps 60
/-! Towers made, or what BadTower tells. -/
namespace V44
open PySem L2
abbrev sWE : Stmt := inClass (top 8) 0
abbrev sBad : Stmt := inClass (top 12) 0
abbrev sTowI : Stmt := inClass (top 53) 0
abbrev sTowE : Stmt := inClass (top 53) 1
/-! ### right towers -/
def Ok (pre : List (List Int)) (l : List Int) : Prop := CellL l ∧ l ∉ pre ∧ ∀ f ∈ facesL l, f ∈ pre
def Gd : List (List Int) → List (List Int) → Prop
  | _, [] => True
  | pre, l :: r => Ok pre l ∧ Gd (pre ++ [l]) r
def GoodT (ll : List (List Int)) : Prop := Gd [] ll
theorem gd_snoc : ∀ (pre r : List (List Int)) (l : List Int), Gd pre (r ++ [l]) ↔ Gd pre r ∧ Ok (pre ++ r) l
  | pre, [], l => by simp [Gd]
  | pre, a :: r, l => by
    have ih := gd_snoc (pre ++ [a]) r l
    show Ok pre a ∧ Gd (pre ++ [a]) (r ++ [l]) ↔ (Ok pre a ∧ Gd (pre ++ [a]) r) ∧ Ok (pre ++ a :: r) l
    rw [ih, List.append_assoc]
    exact ⟨fun ⟨x, y, z⟩ => ⟨⟨x, y⟩, z⟩, fun ⟨⟨x, y⟩, z⟩ => ⟨x, y, z⟩⟩
theorem good_snoc {r : List (List Int)} {l : List Int} : GoodT (r ++ [l]) ↔ GoodT r ∧ Ok r l := gd_snoc [] r l
def OkV (H : Hp) (ll : List (List Int)) (z : V) : Prop := ∃ (c : Addr) (ns : List Int), z = .ref c ∧ H c = some (.tup (ns.map V.int)) ∧ Ok ll ns
def GoodV (H : Hp) (y : V) : Prop := ∃ (b : Addr) (as : List Addr) (ll : List (List Int)), y = .ref b ∧ H b = some (.tup (as.map V.ref)) ∧ as.length ≤ 40 ∧ PT2 H as ll ∧ GoodT ll
def DueV (H : Hp) (y v : V) : Prop := (v = .int (-1) ∧ ¬ ∃ b xs, y = .ref b ∧ H b = some (.tup xs) ∧ xs.length ≤ 40) ∨
  ∃ (b : Addr) (xs : List V) (k : Nat) (z : V) (as : List Addr) (ll : List (List Int)), y = .ref b ∧ H b = some (.tup xs) ∧ xs.length ≤ 40 ∧ v = .int (k : Int) ∧ xs[k]? = some z ∧ xs.take k = as.map V.ref ∧ PT2 H as ll ∧ GoodT ll ∧ ¬ OkV H ll z
def Thing (K : PySem.W.Frag) (H : Hp) (y : V) : Prop := Th K H 2 y ∧ ∀ (b : Addr) (xs : List V), y = .ref b → H b = some (.tup xs) → xs.length ≤ 1000 ∧ ∀ z ∈ xs, Sm H z
theorem Th.items {K : PySem.W.Frag} {H : Hp} {n : Nat} {b : Addr} {xs : List V} (h : Th K H (n + 1) (.ref b)) (hb : H b = some (.tup xs)) : ∀ z ∈ xs, Th K H n z := by
  unfold Th at h
  obtain ⟨t, _, _, _, h⟩ := h
  rcases h with ⟨_, h⟩ | ⟨_, b', ys, e', hb', it⟩
  · obtain ⟨o, ho, no⟩ := h b rfl
    rw [ho] at hb
    cases hb
    exact absurd rfl (no xs)
  · cases e'
    rw [hb] at hb'
    cases hb'
    exact it
theorem Thing.ext {K : PySem.W.Frag} {H H' : Hp} {y : V} (e : Ext H H') (h : Thing K H y) : Thing K H' y := by
  refine ⟨h.1.ext e, fun b xs ey hb => ?_⟩
  subst ey
  have hb0 := h.1.tup_back e hb
  obtain ⟨h1, h2⟩ := h.2 b xs rfl hb0
  exact ⟨h1, fun z hz => (h2 z hz).ext e (h.1.items hb0 z hz)⟩
theorem PT2.inj {H : Hp} : ∀ {as : List Addr} {ll kk : List (List Int)}, PT2 H as ll → PT2 H as kk → ll = kk
  | _, _, _, .nil, .nil => rfl
  | _, _, _, .cons h r, .cons h' r' => by
    rw [h] at h'
    injection h' with h'
    injection h' with h'
    rw [int_inj h', PT2.inj r r']
theorem ref_inj : ∀ {as bs : List Addr}, as.map V.ref = bs.map V.ref → as = bs
  | [], [], _ => rfl
  | a :: as, b :: bs, h => by
    injection h with h1 h2
    injection h1 with h1
    rw [h1, ref_inj h2]
  | [], b :: bs, h => by cases h
  | a :: as, [], h => by cases h
/-- in a right tower each cell goes with those ahead -/
theorem gd_at : ∀ (pre r : List (List Int)) (k : Nat) (l : List Int), Gd pre r → r[k]? = some l → Ok (pre ++ r.take k) l
  | pre, [], k, l, _, h => by simp at h
  | pre, a :: r, 0, l, g, h => by
    have e : a = l := by simpa using h
    subst e
    simpa using g.1
  | pre, a :: r, k + 1, l, g, h => by
    have := gd_at (pre ++ [a]) r k l g.2 (by simpa using h)
    simpa using this
theorem p_take {α β : Type} {F : α → β → Prop} : ∀ {l : List α} {k : List β} (n : Nat), Paired F l k → Paired F (l.take n) (k.take n)
  | _, _, 0, r => .nil
  | _, _, n + 1, .nil => .nil
  | _, _, n + 1, .cons a r => .cons a (p_take n r)
theorem DueV.not_good {H : Hp} {y v : V} (d : DueV H y v) (g : GoodV H y) : False := by
  obtain ⟨b, as, ll, rfl, hb, hl, pt, gd⟩ := g
  rcases d with ⟨_, no⟩ | ⟨b', xs, k, z, as', ll', e, hb', _, _, hz, tk, pt', _, no⟩
  · exact no ⟨b, _, rfl, hb, by rw [List.length_map]; exact hl⟩
  · cases e
    rw [hb] at hb'
    cases hb'
    rw [← List.map_take] at tk
    have ea := ref_inj tk
    rw [← ea] at pt'
    have el := PT2.inj pt' (p_take k pt)
    rw [List.getElem?_map] at hz
    cases hk : as[k]? with
    | none => rw [hk] at hz; cases hz
    | some c =>
      rw [hk] at hz
      cases hz
      obtain ⟨l, hl', hc⟩ := pt.get hk
      refine no ⟨c, l, rfl, hc, ?_⟩
      rw [el]
      have := gd_at [] ll k l gd hl'
      simpa using this
theorem DueV.uniq {H : Hp} {y v v' : V} (d : DueV H y v) (d' : DueV H y v') : v = v' := by
  rcases d with ⟨rfl, no⟩ | ⟨b, xs, k, z, as, ll, rfl, hb, hl, rfl, hz, tk, pt, gd, nok⟩
  · rcases d' with ⟨rfl, _⟩ | ⟨b', xs', _, _, _, _, e, hb', hl', _⟩
    · rfl
    · exact absurd ⟨b', xs', e, hb', hl'⟩ no
  · rcases d' with ⟨rfl, no⟩ | ⟨b', xs', k', z', as', ll', e, hb', hl', rfl, hz', tk', pt', gd', nok'⟩
    · exact absurd ⟨b, xs, rfl, hb, hl⟩ no
    · cases e
      rw [hb] at hb'
      cases hb'
      -- the lesser one is in the prefix of the other
      have lemma1 : ∀ {i j : Nat} {x : V} {cs ds : List Addr} {mm nn : List (List Int)}, i < j → xs[i]? = some x → xs.take i = cs.map V.ref → PT2 H cs mm → xs.take j = ds.map V.ref → PT2 H ds nn → GoodT nn → OkV H mm x := by
        intro i j x cs ds mm nn lt hx tc pc td pd g
        have e1 : (ds.take i).map V.ref = cs.map V.ref := by rw [List.map_take, ← td, List.take_take, Nat.min_eq_left (Nat.le_of_lt lt), tc]
        have e2 := ref_inj e1
        have hx' : (ds.map V.ref)[i]? = some x := by rw [← td, List.getElem?_take_of_lt lt]; exact hx
        rw [List.getElem?_map] at hx'
        cases hk : ds[i]? with
        | none => rw [hk] at hx'; cases hx'
        | some c =>
          rw [hk] at hx'
          cases hx'
          obtain ⟨l, hl', hc⟩ := pd.get hk
          refine ⟨c, l, rfl, hc, ?_⟩
          have p1 := p_take i pd
          rw [e2] at p1
          rw [PT2.inj pc p1]
          have := gd_at [] nn i l g hl'
          simpa using this
      rcases Nat.lt_trichotomy k k' with l | l | l
      · exact (nok (lemma1 l hz tk pt tk' pt' gd')).elim
      · rw [l]
      · exact (nok' (lemma1 l hz' tk' pt' tk pt gd)).elim
theorem OkV.ext {H H' : Hp} {ll : List (List Int)} {z : V} (e : Ext H H') (h : OkV H ll z) : OkV H' ll z := by
  obtain ⟨c, ns, ez, hc, o⟩ := h
  exact ⟨c, ns, ez, e _ _ hc, o⟩
theorem OkV.back {K : PySem.W.Frag} {H H' : Hp} {n : Nat} {ll : List (List Int)} {z : V} (e : Ext H H') (t : Th K H n z) (h : OkV H' ll z) : OkV H ll z := by
  obtain ⟨c, ns, rfl, hc, o⟩ := h
  exact ⟨c, ns, rfl, t.tup_back e hc, o⟩
theorem pt_back {K : PySem.W.Frag} {H H' : Hp} {n : Nat} (e : Ext H H') : ∀ {as : List Addr} {ll : List (List Int)}, (∀ y ∈ as.map V.ref, Th K H n y) → PT2 H' as ll → PT2 H as ll
  | _, _, _, .nil => .nil
  | a :: as, _, t, .cons h r => .cons ((t (.ref a) List.mem_cons_self).tup_back e h) (pt_back e (fun y hy => t y (List.mem_cons_of_mem _ hy)) r)
theorem DueV.back {K : PySem.W.Frag} {H H' : Hp} {y v : V} (e : Ext H H') (t : Thing K H y) (d : DueV H' y v) : DueV H y v := by
  rcases d with ⟨ev, no⟩ | ⟨b, xs, k, z, as, ll, rfl, hb, hl, ev, hz, tk, pt, gd, nok⟩
  · exact .inl ⟨ev, fun ⟨b, xs, ey, hb, hl⟩ => no ⟨b, xs, ey, e _ _ hb, hl⟩⟩
  · have hb0 := t.1.tup_back e hb
    have it := t.1.items hb0
    refine .inr ⟨b, xs, k, z, as, ll, rfl, hb0, hl, ev, hz, tk, pt_back e (fun y hy => it y ?_) pt, gd, fun o => nok (o.ext e)⟩
    rw [← tk] at hy
    exact List.mem_of_mem_take hy
theorem GoodV.back {K : PySem.W.Frag} {H H' : Hp} {y : V} (e : Ext H H') (t : Thing K H y) (g : GoodV H' y) : GoodV H y := by
  obtain ⟨b, as, ll, rfl, hb, hl, pt, gd⟩ := g
  have hb0 := t.1.tup_back e hb
  exact ⟨b, as, ll, rfl, hb0, hl, pt_back e (t.1.items hb0) pt, gd⟩
def cf (y : V) : List (Str × V) := [("cells", y)]
theorem cf_cells (y : V) : (cf y).lookup ("cells" : Str) = some y := by rfl
def TowAt (CT : Addr) (H : Hp) (p b : Addr) : Prop := ∃ dx, H p = some (.ins CT dx (cf (.ref b)))
theorem TowAt.ext {CT p b : Addr} {H H' : Hp} (e : Ext H H') (h : TowAt CT H p b) : TowAt CT H' p b := h.imp fun _ z => e _ _ z
def spTow (K : PySem.W.Frag) (CT CB : Addr) : Sp := fun vs H Q E => ∃ (p dx : Addr) (y : V), vs = [.ref p, y] ∧ H p = some (.ins CT dx []) ∧ Thing K H y ∧
  (∀ (b : Addr) (H' : Hp), y = .ref b → GoodV H y → H' p = some (.ins CT dx (cf y)) → (∀ c o, c ≠ p → H c = some o → H' c = some o) → Q .non H') ∧
  (∀ (v : V) (d : Addr) (H' : Hp), DueV H y v → H d = none → H' d = some (.xd [("index", v)]) → Ext H H' → E (.ref CB) (some d) H')
structure TowK (K : PySem.W.Frag) (mg : Str → Option Value) (CT : Addr) : Prop where
  cl : Cls K CT
  nC : NoAttr K CT "cells"
  mgC : mg "Tower" = some (.ref CT)
section
variable {P : Program} {w : World} {K : PySem.W.Frag} {mg : Str → Option Value} {base : Heap}
theorem scWE : FnScope ["self"] ["self"] (defScope sWE) := ⟨rfl, rfl, rfl, by decide +kernel, rfl, by decide +kernel, by decide +kernel⟩
theorem ok_we {f : Addr} {fd : FuncData} (F : L2.Fun K "__init__" "WebError.__init__" sWE f fd) : FnOk P w K mg base CX0 1 f fd ["self"] spF0 := by
  refine F.ok scWE (fun vs H Q E h => ?_) (fun cdv A outer s H vs Q E hr h => ?_)
  · obtain ⟨a, rfl, _⟩ := h
    rfl
  · obtain ⟨a, rfl, k⟩ := h
    exact ⟨_, pss_one ps_pass, k⟩
theorem scBad : FnScope ["self", "index"] ["self", "index"] (defScope sBad) := ⟨rfl, rfl, rfl, by decide +kernel, rfl, by decide +kernel, by decide +kernel⟩
theorem ok_bad {f C : Addr} {fd : FuncData} (F : L2.Fun K "__init__" "BadTower.__init__" sBad f fd) (B : BadC K mg C f) : FnOk P w K mg base CX0 1 f fd ["self", "index"] (spBad C) := by
  refine F.ok scBad (fun vs H Q E h => ?_) (fun cdv A outer s H vs Q E hr h => ?_)
  · obtain ⟨a, v, rfl, _⟩ := h
    rfl
  · obtain ⟨a, v, rfl, ha, k⟩ := h
    exact ⟨_, pss_one (ps_ost (pv 0) (pv 1)), _, rfl, _, rfl, a, C, rfl, B.ex, B.noI, .inl ⟨ha, fun d nd ne => k d nd ne⟩⟩
abbrev towN : List Str := ["self", "cells", "at", "cell", "face"]
theorem scTowI : FnScope towN ["self", "cells"] (defScope sTowI) := ⟨rfl, rfl, rfl, by decide +kernel, rfl, by decide +kernel, by decide +kernel⟩
end
end V44

set_option Elab.async false
set_option linter.all false
set_option maxRecDepth 100000
set_option maxHeartbeats 4000000
set_option pp.maxSteps 60
/-! Towers compared, exchanged, and the law's own judge. -/
namespace V44
open PySem L2
/-! ### two cells exchanged -/
def swapAt (ll : List (List Int)) (k : Nat) (l1 l2 : List Int) : List (List Int) := ll.take k ++ ([l2, l1] ++ ll.drop (k + 2))
theorem gd_mem : ∀ {r p q : List (List Int)}, (∀ x, x ∈ p ↔ x ∈ q) → Gd p r → Gd q r
  | [], _, _, _, _ => True.intro
  | l :: r, p, q, h, ⟨⟨c, n, f⟩, g⟩ => ⟨⟨c, fun z => n ((h l).mpr z), fun x hx => (h x).mp (f x hx)⟩, gd_mem (fun x => by simp only [List.mem_append, h x]) g⟩
theorem gd_app : ∀ {p r s : List (List Int)}, Gd p (r ++ s) ↔ Gd p r ∧ Gd (p ++ r) s
  | p, [], s => by simp [Gd]
  | p, a :: r, s => by
    have ih := gd_app (p := p ++ [a]) (r := r) (s := s)
    show Ok p a ∧ Gd (p ++ [a]) (r ++ s) ↔ (Ok p a ∧ Gd (p ++ [a]) r) ∧ Gd (p ++ a :: r) s
    rw [ih, List.append_assoc]
    exact ⟨fun ⟨x, y, z⟩ => ⟨⟨x, y⟩, z⟩, fun ⟨⟨x, y⟩, z⟩ => ⟨x, y, z⟩⟩
theorem gd_swap {p r : List (List Int)} {l1 l2 : List Int} (h : Gd p (l1 :: l2 :: r)) (no : l1 ∉ facesL l2) : Gd p (l2 :: l1 :: r) ∧ l2 ∉ facesL l1 := by
  obtain ⟨⟨c1, n1, f1⟩, ⟨c2, n2, f2⟩, g⟩ := h
  have n12 : l2 ≠ l1 := fun e => n2 (by rw [e]; simp)
  refine ⟨⟨⟨c2, fun z => n2 (List.mem_append_left _ z), fun x hx => ?_⟩, ⟨c1, fun z => ?_, fun x hx => List.mem_append_left _ (f1 x hx)⟩, gd_mem (fun x => ?_) g⟩, fun z => n2 (List.mem_append_left _ (f1 _ z))⟩
  · rcases List.mem_append.mp (f2 x hx) with z | z
    · exact z
    · rw [List.mem_singleton.mp z] at hx
      exact (no hx).elim
  · rcases List.mem_append.mp z with z | z
    · exact n1 z
    · exact n12 (List.mem_singleton.mp z).symm
  · simp only [List.mem_append, List.mem_singleton]
    constructor
    · rintro ((x | x) | x)
      · exact .inl (.inl x)
      · exact .inr x
      · exact .inl (.inr x)
    · rintro ((x | x) | x)
      · exact .inl (.inl x)
      · exact .inr x
      · exact .inl (.inr x)
theorem split_at {ll : List (List Int)} {k : Nat} {l1 l2 : List Int} (h1 : ll[k]? = some l1) (h2 : ll[k + 1]? = some l2) : ll = ll.take k ++ (l1 :: l2 :: ll.drop (k + 2)) := by
  obtain ⟨a1, b1⟩ := List.getElem?_eq_some_iff.mp h1
  obtain ⟨a2, b2⟩ := List.getElem?_eq_some_iff.mp h2
  have e : ll.drop k = l1 :: l2 :: ll.drop (k + 2) := by
    rw [List.drop_eq_getElem_cons a1, List.drop_eq_getElem_cons a2, b1, b2]
  rw [← e, List.take_append_drop]
theorem good_swap {ll : List (List Int)} {k : Nat} {l1 l2 : List Int} (g : GoodT ll) (h1 : ll[k]? = some l1) (h2 : ll[k + 1]? = some l2) (no : l1 ∉ facesL l2) : GoodT (swapAt ll k l1 l2) ∧ l2 ∉ facesL l1 := by
  have e := split_at h1 h2
  unfold GoodT at g ⊢
  rw [e] at g
  obtain ⟨g1, g2⟩ := gd_app.mp g
  obtain ⟨g3, n⟩ := gd_swap g2 no
  exact ⟨gd_app.mpr ⟨g1, g3⟩, n⟩
theorem swap_get {ll : List (List Int)} {k : Nat} {l1 l2 : List Int} (h1 : ll[k]? = some l1) (h2 : ll[k + 1]? = some l2) : (swapAt ll k l1 l2)[k]? = some l2 ∧ (swapAt ll k l1 l2)[k + 1]? = some l1 ∧ swapAt (swapAt ll k l1 l2) k l2 l1 = ll := by
  have a1 := (List.getElem?_eq_some_iff.mp h1).1
  have lt : (ll.take k).length = k := by rw [List.length_take]; omega
  have e := split_at h1 h2
  refine ⟨?_, ?_, ?_⟩
  · unfold swapAt
    rw [List.getElem?_append_right (by omega), lt]
    simp
  · unfold swapAt
    rw [List.getElem?_append_right (by omega), lt]
    simp
  · unfold swapAt
    rw [List.take_append_of_le_length (by omega), List.take_of_length_le (by omega), List.drop_append, lt, List.drop_of_length_le (by omega)]
    have e2 : k + 2 - k = 2 := by omega
    rw [e2]
    show ll.take k ++ ([l1, l2] ++ ll.drop (k + 2)) = ll
    exact e.symm
theorem thing_of {K : PySem.W.Frag} {H : Hp} {b : Addr} {as : List Addr} {ll : List (List Int)} (hb : H b = some (.tup (as.map V.ref))) (pt : PT2 H as ll) (la : as.length ≤ 1000) (hl : ∀ l ∈ ll, l.length ≤ 1000) : Thing K H (.ref b) := by
  refine ⟨Th.tup hb (PT2.th (n := 0) pt), fun b' xs e hb' => ?_⟩
  cases e
  rw [hb] at hb'
  cases hb'
  refine ⟨by rw [List.length_map]; exact la, fun z hz c ys e hc => ?_⟩
  subst e
  obtain ⟨a, ha, e⟩ := List.mem_map.mp hz
  cases e
  obtain ⟨i, hi⟩ := List.mem_iff_getElem?.mp ha
  obtain ⟨l, hl', h⟩ := pt.get hi
  rw [h] at hc
  cases hc
  rw [List.length_map]
  exact hl l (List.mem_of_getElem? hl')
theorem good_cells {ll : List (List Int)} (g : GoodT ll) : ∀ l ∈ ll, CellL l := fun l hl => by
  obtain ⟨i, hi⟩ := List.mem_iff_getElem?.mp hl
  have := gd_at [] ll i l g hi
  exact this.1
theorem good_short {ll : List (List Int)} (g : GoodT ll) : ∀ l ∈ ll, l.length ≤ 1000 := fun l hl => Nat.le_trans (good_cells g l hl).2.1 (by decide)
theorem p_drop {α β : Type} {F : α → β → Prop} : ∀ {l : List α} {k : List β} (n : Nat), Paired F l k → Paired F (l.drop n) (k.drop n)
  | _, _, 0, r => r
  | _, _, n + 1, .nil => .nil
  | _, _, n + 1, .cons _ r => p_drop n r
theorem p_app {α β : Type} {F : α → β → Prop} : ∀ {l l' : List α} {k k' : List β}, Paired F l k → Paired F l' k' → Paired F (l ++ l') (k ++ k')
  | _, _, _, _, .nil, r' => r'
  | _, _, _, _, .cons a r, r' => .cons a (p_app r r')
section
variable {P : Program} {w : World} {K : PySem.W.Frag} {mg : Str → Option Value} {base : Heap}
end
end V44

set_option Elab.async false
set_option linter.all false
set_option maxRecDepth 100000
set_option maxHeartbeats 4000000
set_option pp.maxSteps 60
/-! The bag. -/
namespace V44
open PySem L2
section
variable {P : Program} {w : World} {K : PySem.W.Frag} {mg : Str → Option Value} {base : Heap}
abbrev bagN : List Str := ["_law_script", "_law_great", "_law_seed", "_law_cell"]
theorem scBag : FnScope bagN ["_law_script"] (defScope sBag) := ⟨rfl, rfl, rfl, by decide +kernel, rfl, by decide +kernel, by decide +kernel⟩
theorem ok_bag {f : Addr} {fd : FuncData} (F : L2.Fun K "_law_bag" "_law_bag" sBag f fd) (T : Gb mg) : FnOk P w K mg base CX0 1 f fd ["_law_script"] (spBag K) := by
  refine F.ok scBag (fun vs H Q E h => ?_) (fun cdv A outer s H vs Q E hr h => ?_)
  · obtain ⟨a, ns, rfl, _⟩ := h
    rfl
  · obtain ⟨a, ns, rfl, hS, hlen, k⟩ := h
    refine ⟨_, pss_cons (ps_setLc (i := 1) (own := [("_law_cell", 3)]) (g := gName 3) rfl scBag.nd rfl rfl (sw_true rfl rfl rfl (by decide +kernel)) (pi_list (pe_slice sl_list (pv 0) po_none (po_some pe_int))) (blkOk_by (N := bagN) (sc := defScope sBag) (by decide +kernel))
        (fun _ _ _ _ _ => pg_name (i := 3) scBag.nd rfl (Or.inl rfl))
        (fun _ _ _ _ _ => pts_one (pt_cmpR op_ge (pe_callB call_abs (by rfl) T.abs (by decide +kernel) (pa_cons (pe_callTy call_int1 (by rfl) T.int (by decide +kernel) (pa_cons (pv 3) pa_nil)) pa_nil)) (pe_op op_pow pe_int pe_int) (nomark _)))
        (fun _ _ _ _ _ => pe_callB call_abs (by rfl) T.abs (by decide +kernel) (pa_cons (pe_callTy call_int1 (by rfl) T.int (by decide +kernel) (pa_cons (pv 3) pa_nil)) pa_nil)))
      (pss_cons (ps_set (i := 2) scBag.nd rfl (Or.inl rfl) pe_int)
      (pss_cons (ps_for PassesOwn.never rfl (pi_list (pe_slice sl_list (pv 0) po_none (po_some pe_int))) (pg_name (i := 3) scBag.nd rfl (Or.inl rfl))
        (pss_one (ps_set (i := 2) scBag.nd rfl (Or.inl rfl) (pe_op op_mod (pe_callTy call_int1 (by rfl) T.int (by decide +kernel) (pa_cons
          (pe_op op_add (pe_op op_add (pe_op op_add (pe_op op_mul (pv 2) pe_int) (pe_op op_mul (pe_callB call_abs (by rfl) T.abs (by decide +kernel) (pa_cons (pe_callTy call_int1 (by rfl) T.int (by decide +kernel) (pa_cons (pv 3) pa_nil)) pa_nil)) pe_int))
            (pe_callTy call_int1 (by rfl) T.int (by decide +kernel) (pa_cons (pe_cmpR op_lt (pe_callTy call_int1 (by rfl) T.int (by decide +kernel) (pa_cons (pv 3) pa_nil)) pe_int (nomark _)) pa_nil))) pe_int) pa_nil)) pe_int))))
      (pss_one (ps_ret (pe_lst (pa_cons (pv 1) (pa_cons (pv 2) (pa_cons (pe_callB call_len_seq (by rfl) T.len PySem.boot_len (pa_cons (pv 0) pa_nil)) (pa_cons pe_int pa_nil))))))))), ?_⟩
    have all : ∀ y ∈ cutV (ns.map V.int) Option.none (some 63), ∃ i, y = V.int i := fun y hy => by
      have hy := List.mem_of_mem_drop (List.mem_of_mem_take hy)
      obtain ⟨i, _, rfl⟩ := List.mem_map.mp hy
      exact ⟨i, rfl⟩
    have cl : (cutV (ns.map V.int) Option.none (some 63)).length ≤ 63 := Nat.le_trans (cutV_length _ _ _) (by rw [List.length_map]; exact hlen)
    refine ⟨_, rfl, 63, rfl, a, _, rfl, hS, fun l nl => ?_⟩
    generalize cutV (ns.map V.int) Option.none (some 63) = xs at *
    refine ⟨l, rfl, ⟨_, SqL.of upd_same⟩, fun D nD => lc_list (K := K) (a := l) (xs := xs) (fun i H' => ∃ cs : List Int, H' = upd (upd H l (.lst xs)) D (.lst (cs.map V.int)) ∧ cs.length ≤ i) ⟨[], rfl, Nat.le_refl _⟩ (fun i H' _ ⟨cs, e, _⟩ => by rw [e]; exact SqL.of (Ext.upd nD _ _ upd_same)) ?_ ?_⟩
    · rintro i y H' hy ⟨cs, rfl, hc⟩
      obtain ⟨z, rfl⟩ := all y (List.mem_of_getElem? hy)
      have hi := (List.getElem?_eq_some_iff.mp hy).1
      refine ⟨rfl, _, rfl, .inl ⟨_, rfl, _, rfl, _, _, rfl, rfl, ⟨by decide, by decide, by decide⟩, _, _, rfl, rfl, _, rfl, ?_⟩⟩
      refine ite2 (fun _ => ?_) (fun _ => ⟨cs, rfl, by omega⟩)
      refine ⟨_, rfl, .inl ⟨_, rfl, _, rfl, ?_⟩⟩
      refine ⟨_, upd_same, by rw [List.length_map]; exact small1000 (by omega), cs ++ [if z < 0 then -z else z], ?_, by rw [List.length_append]; exact Nat.succ_le_succ hc⟩
      rw [upd_upd, List.map_append]
      rfl
    · rintro H' ⟨cs, rfl, hc⟩
      have e1 : Ext H (upd (upd H l (.lst xs)) D (.lst (cs.map V.int))) := (Ext.upd nl).trans (Ext.upd nD)
      have gD : (upd (upd H l (.lst xs)) D (.lst (cs.map V.int))) D = some (.lst (cs.map V.int)) := upd_same
      generalize upd (upd H l (.lst xs)) D (.lst (cs.map V.int)) = H1 at *
      refine ⟨_, rfl, 63, rfl, a, _, rfl, hS.ext e1, fun l2 nl2 => ?_⟩
      have e2 := Ext.upd (o := .lst (cutV (ns.map V.int) Option.none (some 63))) nl2
      refine ⟨l2, rfl, ⟨_, SqL.of upd_same⟩, for_list (K := K) (a := l2) (xs := cutV (ns.map V.int) Option.none (some 63)) (fun i σ' H' => (∃ (z : Int) (v : Option V), σ' = [some (.ref a), some (.ref D), some (.int z), v]) ∧ H' = upd H1 l2 (.lst (cutV (ns.map V.int) Option.none (some 63)))) ⟨⟨144, _, rfl⟩, rfl⟩ (fun i σ' H' _ h => by rw [h.2]; exact SqL.of upd_same) ?_ ?_⟩
      · rintro i y σ' H' hy ⟨⟨z, v, rfl⟩, rfl⟩
        obtain ⟨c, hc'⟩ : ∃ c, y = V.int c := by
          have hy := List.mem_of_mem_drop (List.mem_of_mem_take (List.mem_of_getElem? hy))
          obtain ⟨i, _, rfl⟩ := List.mem_map.mp hy
          exact ⟨i, rfl⟩
        subst hc'
        refine ⟨_, rfl, _, _, rfl, rfl, .inr ⟨by decide, by decide⟩, ?_⟩
        refine ⟨_, rfl, .inl ⟨_, rfl, _, rfl, _, _, rfl, rfl, .inr ⟨by decide, by decide⟩, _, _, rfl, rfl, _, rfl, .inl ⟨_, rfl, _, _, rfl, rfl, .inr ⟨_, rfl, _, _, rfl, rfl, _, _, rfl, rfl, .inl ⟨_, rfl, _, _, rfl, rfl, (by show (0 : Int) < 2147483629; decide), ?_⟩⟩⟩⟩⟩
        exact ⟨⟨_, _, rfl⟩, rfl⟩
      · rintro σ' H' ⟨⟨z, v, rfl⟩, rfl⟩
        refine ⟨_, rfl, _, rfl, _, rfl, a, _, rfl, .inl ((hS.ext e1).ext e2), (by show 4 ≤ sizeLine; decide), fun r nr => ?_⟩
        exact k r D _ (fun b o hb => Ext.upd nr _ _ (e2 _ _ (e1 _ _ hb))) ⟨cs, z, _, 0, upd_same, Ext.upd nr _ _ (e2 _ _ gD)⟩
end
end V44

set_option Elab.async false
set_option linter.all false
set_option maxRecDepth 100000
set_option maxHeartbeats 4000000
set_option pp.maxSteps 60
/-! A drawn tower grown. -/
namespace V44
open PySem L2
abbrev sGrown : Stmt := top 66
/-- a test whose answers go on with what they leave alone -/
def tCutT (t : L2.TT) : L2.TT := fun σ H Q => ∃ M : Bool → Hp → Prop, t σ H M ∧ ∀ c H1, M c H1 → Q c H1
theorem pt_cutT {X : Cx} {e : Expr} {t : L2.TT} (h : PT X e t) : PT X e (tCutT t) := ⟨fun pins s σ H Q I hw => by
  obtain ⟨M, hm, k⟩ := hw
  refine wpAny_mono (h.run pins s σ H M I hm) (fun c s1 ⟨H1, I1, m⟩ => ⟨H1, I1, k _ _ m⟩) fun _ _ z => z⟩
/-! ### what is free -/
def fr (i : Nat) (ps : List Int) : List Int := ((List.range i).map fun k : Nat => (0 + (k : Int))).filter fun p => !decide (p ∈ ps)
theorem fr_succ (i : Nat) (ps : List Int) : fr (i + 1) ps = fr i ps ++ (if (0 + (i : Int)) ∈ ps then [] else [0 + (i : Int)]) := by
  unfold fr
  rw [List.range_succ, List.map_append, List.filter_append]
  congr 1
  simp only [List.map_cons, List.map_nil]
  by_cases h : (0 + (i : Int)) ∈ ps
  · rw [if_pos h, List.filter_cons, decide_eq_true h]
    rfl
  · rw [if_neg h, List.filter_cons, decide_eq_false h]
    rfl
theorem fr_mem {i : Nat} {ps : List Int} {p : Int} (h : p ∈ fr i ps) : 0 ≤ p ∧ p < i ∧ p ∉ ps := by
  unfold fr at h
  obtain ⟨h1, h2⟩ := List.mem_filter.mp h
  obtain ⟨k, hk, rfl⟩ := List.mem_map.mp h1
  have := List.mem_range.mp hk
  have h3 : ¬ (0 + (k : Int)) ∈ ps := fun z => by
    rw [decide_eq_true z] at h2
    cases h2
  exact ⟨by omega, by omega, h3⟩
theorem fr_le {i : Nat} {ps : List Int} : (fr i ps).length ≤ i := by
  unfold fr
  refine Nat.le_trans (List.length_filter_le _ _) ?_
  rw [List.length_map, List.length_range]
  exact Nat.le_refl _
theorem many_left : ∀ (ps R : List Int), R.Nodup → R.length ≤ (R.filter fun p => !decide (p ∈ ps)).length + ps.length
  | [], R, _ => by
    rw [List.filter_eq_self.mpr fun x _ => by simp]
    exact Nat.le_add_right _ _
  | p :: ps, R, nd => by
    have e : (R.filter fun x => !decide (x ∈ p :: ps)) = (R.filter (fun x => x != p)).filter fun x => !decide (x ∈ ps) := by
      rw [List.filter_filter]
      refine List.filter_congr fun x _ => ?_
      by_cases h : x = p <;> by_cases g : x ∈ ps <;> simp [h, g]
    have e2 := nd.erase_eq_filter p
    have ih := many_left ps (R.filter (fun x => x != p)) (by rw [← e2]; exact nd.erase p)
    have l1 : R.length ≤ (R.filter (fun x => x != p)).length + 1 := by
      rw [← e2, List.length_erase]
      split <;> omega
    rw [e, List.length_cons]
    omega
theorem fr_many {ps : List Int} : 30 ≤ (fr 30 ps).length + ps.length := by
  have nd : ((List.range 30).map fun k : Nat => (0 + (k : Int))).Nodup := by decide +kernel
  have := many_left ps _ nd
  rw [List.length_map, List.length_range] at this
  exact this
theorem inV_ints (p : Int) : ∀ ps : List Int, inV (.int p) (ps.map V.int) = decide (p ∈ ps)
  | [] => by simp [inV]
  | q :: ps => by
    have ih := inV_ints p ps
    unfold inV at ih ⊢
    rw [List.map_cons, List.any_cons, ih]
    show ((q == p) || _) = _
    by_cases h : q = p
    · simp [h]
    · have h' : ¬ p = q := fun e => h e.symm
      simp [h, h']
theorem flat_ints (ps : List Int) : (ps.map V.int).all flatV = true := List.all_eq_true.mpr fun y hy => by
  obtain ⟨i, _, rfl⟩ := List.mem_map.mp hy
  rfl
theorem erase_map : ∀ (l : List Int) (k : Nat), (l.map V.int).eraseIdx k = (l.eraseIdx k).map V.int
  | [], k => rfl
  | x :: l, 0 => rfl
  | x :: l, k + 1 => by
    rw [List.map_cons, List.eraseIdx_cons_succ, List.eraseIdx_cons_succ, erase_map l k]
    rfl
theorem rise_of {ns : List Int} (h : ns.Pairwise (· ≤ ·)) (nd : ns.Nodup) : ns.Pairwise (· < ·) := by
  have := List.Pairwise.and h nd
  exact this.imp fun ⟨x, y⟩ => by omega
/-- what stands in the list of cells and in the list of points -/
structure GrH (L G : Addr) (as : List Addr) (ll : List (List Int)) (ps : List Int) (H : Hp) : Prop where
  l : H L = some (.lst (as.map V.ref))
  g : H G = some (.lst (ps.map V.int))
  pt : PT2 H as ll
theorem GrH.go {a c L G : Addr} {as : List Addr} {ll : List (List Int)} {ps : List Int} {H H' : Hp} (nL : L ≠ a ∧ L ≠ c) (nG : G ≠ a ∧ G ≠ c) (bag : BagAt H a c) (go : Go a c H H') (h : GrH L G as ll ps H) : GrH L G as ll ps H' :=
  ⟨go.2 _ _ nL.1 nL.2 h.1, go.2 _ _ nG.1 nG.2 h.2, PT2.mono (fun _ _ z => Go.tup bag go z) h.3⟩
theorem GrH.ext {L G : Addr} {as : List Addr} {ll : List (List Int)} {ps : List Int} {H H' : Hp} (e : Ext H H') (h : GrH L G as ll ps H) : GrH L G as ll ps H' := ⟨e _ _ h.1, e _ _ h.2, PT2.mono (fun _ _ z => e _ _ z) h.3⟩
theorem GrH.put {L G D : Addr} {as : List Addr} {ll : List (List Int)} {ps : List Int} {H : Hp} {o : HO} {xs : List V} (hD : H D = some (.lst xs)) (nL : L ≠ D) (nG : G ≠ D) (h : GrH L G as ll ps H) : GrH L G as ll ps (upd H D o) :=
  ⟨by rw [upd_ne nL]; exact h.1, by rw [upd_ne nG]; exact h.2, PT2.mono (fun b ys z => by rw [upd_ne (lst_ne hD z)]; exact z) h.3⟩
theorem Go.none_back {a c b : Addr} {H H' : Hp} (g : Go a c H H') (nb : H' b = none) : H b = none := by
  cases q : H b with
  | none => rfl
  | some o =>
    obtain ⟨n1, n2⟩ := g.1.ne nb
    rw [g.2 _ _ n1 n2 q] at nb
    cases nb
theorem seqI {n : Nat} {r : Int} (h0 : 0 ≤ r) (h : r < n) : seqIndex? r n = some r.toNat := by
  unfold seqIndex?
  have c1 : ¬ r < 0 := by omega
  simp only [c1, if_false]
  rw [if_pos (by simp; omega)]
def spGrown : Sp := fun vs H Q _ => ∃ (a c : Addr) (m : Nat), vs = [.ref a, .int (m : Int)] ∧ BagAt H a c ∧ m ≤ 40 ∧
  ∀ (l : Addr) (as : List Addr) (ll : List (List Int)) (H' : Hp), Go a c H H' → l ≠ a → l ≠ c → H' l = some (.lst (as.map V.ref)) → PT2 H' as ll → GoodT ll → as.length ≤ m → Q (.ref l) H'
section
variable {P : Program} {w : World} {K : PySem.W.Frag} {mg : Str → Option Value} {base : Heap}
abbrev grownN : List Str := ["_law_bag_here", "_law_many", "_law_cells", "_law_points", "_law_width", "_law_turn", "_law_pool", "_law_size", "_law_cell", "_law_free", "_law_point", "_law_face"]
theorem scGrown : FnScope grownN ["_law_bag_here", "_law_many"] (defScope sGrown) := ⟨rfl, rfl, rfl, by decide +kernel, rfl, by decide +kernel, by decide +kernel⟩
theorem ok_grown {f : Addr} {fd : FuncData} (F : L2.Fun K "_law_grown" "_law_grown" sGrown f fd) (T : Gb mg) (cP : Cal P w K mg base 1 "_law_pick" spPick []) (cS : Cal P w K mg base 2 "_law_some" spSome []) (cF : Cal P w K mg base 1 "_law_faces" spFaces []) : FnOk P w K mg base CX0 3 f fd ["_law_bag_here", "_law_many"] spGrown := by
  refine F.ok scGrown (fun vs H Q E h => ?_) (fun cdv A outer s H vs Q E hr h => ?_)
  · obtain ⟨a, c, m, rfl, _⟩ := h
    rfl
  · obtain ⟨a, c, m, rfl, bag, m40, k⟩ := h
    refine ⟨_, pss_cons (ps_asg (pe_tup (pa_cons (pe_lst pa_nil) (pa_cons (pe_lst pa_nil) pa_nil))) (pg_tup rfl (pgs_cons (pg_name (i := 2) scGrown.nd rfl (Or.inr rfl)) (pgs_cons (pg_name (i := 3) scGrown.nd rfl (Or.inr rfl)) pgs_nil))))
      (pss_cons (ps_set (i := 4) scGrown.nd rfl (Or.inl rfl) (pe_op op_add pe_int (C8.pe_c cP hr (by decide) (by rfl) (pa_cons (pv 0) (pa_cons pe_int pa_nil)))))
      (pss_cons (ps_for PassesOwn.never rfl (pi_range1 (by rfl) T.rng (pa_cons (pe_op op_mul pe_int (pv 1)) pa_nil)) (pg_name (i := 5) scGrown.nd rfl (Or.inl rfl))
        (pss_one (ps_if (pt_cmpR op_lt (pe_callB call_len_seq (by rfl) T.len PySem.boot_len (pa_cons (pv 2) pa_nil)) (pv 1) (nomark _))
          (pss_cons (ps_par (i := 6) (j := 7) rfl scGrown.nd rfl rfl (by decide) rfl rfl (pa_cons (pe_callTy call_list_of (by rfl) T.list (by decide +kernel) (pa_cons (pv 3) pa_nil)) (pa_cons (pe_op op_add pe_int (C8.pe_c cP hr (by decide) (by rfl) (pa_cons (pv 0) (pa_cons pe_int pa_nil)))) pa_nil)) (by rfl))
          (C8.pss_cut (ps_while PassesOwn.never (pt_cmpR op_gt (pe_callB call_len_seq (by rfl) T.len PySem.boot_len (pa_cons (pv 6) pa_nil)) (pv 7) (nomark _))
            (pss_one (ps_expr (pe_bm PySem.F.plainAttrs_list PySem.F.slot_list_pop PySem.F.type_list_pop mt_popAt (pv 6) (pa_cons (C8.pe_c cP hr (by decide) (by rfl) (pa_cons (pv 0) (pa_cons (pe_callB call_len_seq (by rfl) T.len PySem.boot_len (pa_cons (pv 6) pa_nil)) pa_nil))) pa_nil)))))
          (pss_cons (ps_set (i := 8) scGrown.nd rfl (Or.inl rfl) (pe_callTy call_tuple_of (by rfl) T.tup (by decide +kernel) (pa_cons (pe_callB cr_sorted (by rfl) T.sorted (by decide +kernel) (pa_cons (pv 6) pa_nil)) pa_nil)))
          (C8.pss_cut (ps_if (pt_cutT (PW.pt (pw_or (PW.pt (pw_and (pt_cmpR op_lt (pe_callB call_len_seq (by rfl) T.len PySem.boot_len (pa_cons (pv 3) pa_nil)) (pv 4) (nomark _)) (pw_and1 (pt_cmpR op_eq (C8.pe_c cP hr (by decide) (by rfl) (pa_cons (pv 0) (pa_cons pe_int pa_nil))) pe_int (nomark _)))))
              (pw_or1 (pt_cmpR op_eq (pe_callB call_len_seq (by rfl) T.len PySem.boot_len (pa_cons (pv 3) pa_nil)) pe_int (nomark _))))))
            (pss_cons (ps_setLc (i := 9) (own := [("_law_point", 10)]) (g := gName 10) (tt := tTest (tOp (rIn K true) (tVar 10) (tVar 3))) (te := tVar 10) rfl scGrown.nd rfl rfl (sw_true rfl rfl rfl (by decide +kernel)) (pi_range1 (by rfl) T.rng (pa_cons pe_int pa_nil)) (blkOk_by (N := grownN) (sc := defScope sGrown) (by decide +kernel))
                (fun _ _ _ _ _ => pg_name (i := 10) scGrown.nd rfl (Or.inl rfl)) (fun _ _ _ _ _ => pts_one (pt_cmpR op_notIn_seq (pv 10) (pv 3) (by rfl))) (fun _ _ _ _ _ => pv 10))
            (pss_cons (ps_set (i := 8) scGrown.nd rfl (Or.inl rfl) (pe_tup (pa_cons (pe_ix ix_list (pv 9) (C8.pe_c cP hr (by decide) (by rfl) (pa_cons (pv 0) (pa_cons (C8.pe_c cS hr (by decide) (by rfl) (pa_cons (pv 0) (pa_cons (pe_lst (pa_cons pe_int (pa_cons pe_int (pa_cons (pe_callB call_len_seq (by rfl) T.len PySem.boot_len (pa_cons (pv 9) pa_nil)) pa_nil)))) pa_nil))) pa_nil))) (fun _ _ => rfl)) pa_nil)))
            (pss_one (ps_expr (pe_bm PySem.F.plainAttrs_list PySem.F.slot_list_append PySem.F.type_list_append mt_append (pv 3) (pa_cons (pe_ix ix_tup (pv 8) pe_int (fun _ _ => rfl)) pa_nil)))))) pss_nil)
          (pss_one (ps_if (PW.pt (pw_and (pt_cmpR (op_notInD (u65 hr)) (pv 8) (pv 2) (by rfl)) (pw_and1 (pt_val (pe_callB (cr_all rfl) (by rfl) T.all (by decide +kernel) (pa_cons (pe_lc (own := [("_law_face", 11)]) (g := gName 11) (tt := tYes) (te := tOp (rInD K) (tVar 11) (tVar 2)) rfl scGrown.nd (pi_list (C8.pe_c cF hr (by decide) (by rfl) (pa_cons (pv 8) pa_nil))) (blkOk_by (N := grownN) (sc := defScope sGrown) (by decide +kernel))
                (fun _ _ _ _ _ => pg_name (i := 11) scGrown.nd rfl (Or.inl rfl)) (fun _ _ _ _ _ => pts_nil) (fun _ _ _ _ _ => pe_cmpR (op_inD (u65 hr)) (pv 11) (pv 2) (by rfl))) pa_nil))))))
            (pss_one (ps_expr (pe_bm PySem.F.plainAttrs_list PySem.F.slot_list_append PySem.F.type_list_append mt_append (pv 2) (pa_cons (pv 8) pa_nil)))) pss_nil)))))) pss_nil)))
      (pss_one (ps_ret (pv 2))))), ?_⟩
    refine ⟨Nat.zero_le _, fun L nL0 => ⟨Nat.zero_le _, fun G nG0 => ⟨by show 2 ≤ sizeLine; decide, fun t0 nt0 => ⟨t0, _, rfl, SqT.of upd_same, rfl, _, _, rfl, _, _, rfl, rfl, ?_⟩⟩⟩⟩
    have nL1 : H L = Option.none := nL0
    have nG1 : H G = Option.none := none_back (Ext.upd nL0) nG0
    have neLG : L ≠ G := ne_of_none upd_same nG0
    have nL := bag.ne nL1
    have nG := bag.ne nG1
    have go0 : Go a c H (upd (upd (upd H L (.lst [])) G (.lst [])) t0 (.tup [.ref L, .ref G])) := Go.of_ext bag (((Ext.upd nL0).trans (Ext.upd nG0)).trans (Ext.upd nt0))
    have gr0 : GrH L G [] [] [] (upd (upd (upd H L (.lst [])) G (.lst [])) t0 (.tup [.ref L, .ref G])) := ⟨Ext.upd nt0 _ _ (Ext.upd nG0 _ _ upd_same), Ext.upd nt0 _ _ upd_same, .nil⟩
    generalize upd (upd (upd H L (.lst [])) G (.lst [])) t0 (.tup [.ref L, .ref G]) = H0 at *
    refine ⟨_, rfl, a, c, 6, rfl, go0.1, by decide, by decide, fun r1 H1 a1 b1 g1 => ⟨_, _, rfl, rfl, ?_⟩⟩
    have go1 := go0.trans g1
    have gr1 := gr0.go nL nG go0.1 g1
    obtain ⟨wd, ewd⟩ : ∃ wd, wd = 2 + r1 := ⟨_, rfl⟩
    show gName 4 (V.int (2 + r1)) _ _ _
    rw [← ewd]
    have w7 : wd ≤ 7 := by omega
    refine ⟨_, rfl, _, _, rfl, rfl, .inl ⟨by decide, by decide⟩, _, rfl, by omega, by omega, for_range (lo := 0) (n := (5 * (m : Int)).toNat) (fun i σ' H' => (∃ v5 v6 v7 v8 v9 : Option V, σ' = [some (.ref a), some (.int (m : Int)), some (.ref L), some (.ref G), some (.int wd), v5, v6, v7, v8, v9, Option.none, Option.none]) ∧ Go a c H H' ∧ ∃ as ll ps, GrH L G as ll ps H' ∧ GoodT ll ∧ as.length ≤ m ∧ ps.Nodup ∧ (∀ p ∈ ps, 0 ≤ p ∧ p ≤ 29) ∧ ps.length ≤ 7 ∧ ((i = 0 ∧ ps = [] ∧ as = []) ∨ (1 ≤ as.length ∧ 1 ≤ ps.length))) ?_ ?_ ?_⟩
    · exact ⟨⟨_, _, _, _, _, rfl⟩, go1, [], [], [], gr1, True.intro, Nat.zero_le _, List.nodup_nil, (fun p h => by cases h), Nat.zero_le _, .inl ⟨rfl, rfl, rfl⟩⟩
    · rintro i σ' H2 hi ⟨⟨v5, v6, v7, v8, v9, rfl⟩, go2, as, ll, ps, gr2, gd, lm, nd, bd, l7, ini⟩
      refine ⟨_, rfl, L, _, rfl, .inl (SqL.of gr2.l), _, rfl, _, _, rfl, rfl, _, rfl, ?_⟩
      refine ite2 (fun q => ?_) (fun q => ?_)
      · have lm' : as.length < m := by
          have := of_decide_eq_true q
          rw [List.length_map] at this
          omega
        refine ⟨_, rfl, G, _, rfl, .inl (SqL.of gr2.g), fun D nD => ?_⟩
        have nD1 := go2.none_back nD
        have nDac := bag.ne nD1
        have go3 := Go.put (o := .lst (ps.map V.int)) bag go2 nD1
        have neLD : L ≠ D := ne_of_none gr2.l nD
        have neGD : G ≠ D := ne_of_none gr2.g nD
        refine ⟨_, rfl, a, c, 3, rfl, go3.1, by decide, by decide, fun r2 H4 a2 b2 g4 => ⟨_, _, rfl, rfl, _, _, rfl, ?_⟩⟩
        have go4 := go3.trans g4
        have gr4 := (gr2.ext (Ext.upd nD)).go nL nG go3.1 g4
        have hD4 := g4.2 _ _ nDac.1 nDac.2 (upd_same (H := H2) (a := D) (o := .lst (ps.map V.int)))
        refine ⟨fun σ' H' => σ' = [some (.ref a), some (.int (m : Int)), some (.ref L), some (.ref G), some (.int wd), some (.int (0 + (i : Int))), some (.ref D), some (.int (2 + r2)), v8, v9, Option.none, Option.none] ∧ Go a c H H' ∧ GrH L G as ll ps H' ∧ ∃ ds : List Int, H' D = some (.lst (ds.map V.int)) ∧ ds.Sublist ps ∧ ds.length ≤ 4 ∧ (1 ≤ ps.length → 1 ≤ ds.length), ?_, ?_⟩
        · refine ⟨fun n σ' H' => σ' = [some (.ref a), some (.int (m : Int)), some (.ref L), some (.ref G), some (.int wd), some (.int (0 + (i : Int))), some (.ref D), some (.int (2 + r2)), v8, v9, Option.none, Option.none] ∧ Go a c H H' ∧ GrH L G as ll ps H' ∧ ∃ ds : List Int, H' D = some (.lst (ds.map V.int)) ∧ ds.Sublist ps ∧ (1 ≤ ps.length → 1 ≤ ds.length) ∧ ds.length = n, ⟨ps.length, rfl, go4, gr4, ps, hD4, List.Sublist.refl _, id, rfl⟩, ?_⟩
          rintro n σ' H5 ⟨rfl, go5, gr5, ds, hD5, sub, one, rfl⟩
          refine ⟨_, rfl, D, _, rfl, .inl (SqL.of hD5), _, rfl, _, _, rfl, rfl, _, rfl, ?_⟩
          have ld := sub.length_le
          refine ite2 (fun q => ?_) (fun q => ?_)
          · have big : 2 < ds.length := by
              have := of_decide_eq_true q
              rw [List.length_map] at this
              omega
            refine ⟨fun σ' H' => ∃ m', m' < ds.length ∧ σ' = [some (.ref a), some (.int (m : Int)), some (.ref L), some (.ref G), some (.int wd), some (.int (0 + (i : Int))), some (.ref D), some (.int (2 + r2)), v8, v9, Option.none, Option.none] ∧ Go a c H H' ∧ GrH L G as ll ps H' ∧ ∃ ds : List Int, H' D = some (.lst (ds.map V.int)) ∧ ds.Sublist ps ∧ (1 ≤ ps.length → 1 ≤ ds.length) ∧ ds.length = m', fun σ' H' q => q, ?_⟩
            refine ⟨_, rfl, .inl ⟨rfl, _, SqL.of hD5⟩, _, rfl, _, rfl, D, _, rfl, .inl (SqL.of hD5), a, c, _, rfl, go5.1, by rw [List.length_map]; omega, by rw [List.length_map]; omega, fun r H6 h0 hlt g6 => ?_⟩
            rw [List.length_map] at hlt
            have lt : r.toNat < ds.length := by omega
            have hy : (ds.map V.int)[r.toNat]? = some (V.int ds[r.toNat]) := by rw [List.getElem?_map, List.getElem?_eq_getElem lt]; rfl
            have hD6 := g6.2 _ _ nDac.1 nDac.2 hD5
            refine ⟨D, _, r, r.toNat, _, rfl, rfl, hD6, by omega, by omega, seqI h0 (by rw [List.length_map]; exact hlt), hy, ?_⟩
            have el : (ds.eraseIdx r.toNat).length = ds.length - 1 := by rw [List.length_eraseIdx, if_pos lt]
            refine ⟨_, by omega, rfl, Go.put bag (go5.trans g6) nD1, (gr5.go nL nG go5.1 g6).put hD6 neLD neGD, ds.eraseIdx r.toNat, ?_, (List.eraseIdx_sublist _ _).trans sub, fun _ => by omega, el⟩
            rw [upd_same, erase_map]
          · have small : ds.length ≤ 4 := by
              have : ¬ (2 + r2) < ((ds.map V.int).length : Int) := fun z => q (decide_eq_true z)
              rw [List.length_map] at this
              omega
            exact ⟨rfl, go5, gr5, ds, hD5, sub, small, one⟩
        · rintro σ' H5 ⟨rfl, go5, gr5, ds, hD5, sub, small, one⟩
          refine ⟨_, rfl, D, ds, rfl, SqL.of hD5, by omega, fun ns p pm le np => ⟨p, _, rfl, .inl ⟨SqL.of upd_same, fun t nt => ?_⟩⟩⟩
          have e6 := (Ext.upd (o := .lst (ns.map V.int)) np).trans (Ext.upd (o := .tup (ns.map V.int)) nt)
          have ht6 : (upd (upd H5 p (.lst (ns.map V.int))) t (.tup (ns.map V.int))) t = some (.tup (ns.map V.int)) := upd_same
          generalize upd (upd H5 p (.lst (ns.map V.int))) t (.tup (ns.map V.int)) = H6 at *
          have go6 := go5.trans (Go.of_ext go5.1 e6)
          have gr6 := gr5.ext e6
          have ln := pm.length_eq
          have low : ∀ n ∈ ns, 0 ≤ n ∧ n ≤ 29 := fun n hn => bd n (sub.subset (pm.subset hn))
          have ris : ns.Pairwise (· < ·) := rise_of le (pm.nodup_iff.mpr (nd.sublist sub))
          refine ⟨fun σ' H' => ∃ (v6 v7 v9 : Option V) (t : Addr) (ns ps : List Int), σ' = [some (.ref a), some (.int (m : Int)), some (.ref L), some (.ref G), some (.int wd), some (.int (0 + (i : Int))), v6, v7, some (.ref t), v9, Option.none, Option.none] ∧ Go a c H H' ∧ GrH L G as ll ps H' ∧ ps.Nodup ∧ (∀ p ∈ ps, 0 ≤ p ∧ p ≤ 29) ∧ ps.length ≤ 7 ∧ 1 ≤ ps.length ∧ H' t = some (.tup (ns.map V.int)) ∧ CellL ns ∧ (as = [] → ns.length = 1), ?_, ?_⟩
          · refine ⟨fun b H' => Go a c H H' ∧ GrH L G as ll ps H' ∧ H' t = some (.tup (ns.map V.int)) ∧ (b = true → ps.length < 7) ∧ (b = false → 1 ≤ ps.length), ?_, ?_⟩
            · have last : ∀ H8, Go a c H H8 → GrH L G as ll ps H8 → H8 t = some (.tup (ns.map V.int)) → ∀ b : Bool, b = decide (V.int ((ps.map V.int).length : Int) = V.int 0) → Go a c H H8 ∧ GrH L G as ll ps H8 ∧ H8 t = some (.tup (ns.map V.int)) ∧ (b = true → ps.length < 7) ∧ (b = false → 1 ≤ ps.length) := by
                rintro H8 go8 gr8 ht8 b rfl
                refine ⟨go8, gr8, ht8, fun z => ?_, fun z => ?_⟩
                · have := of_decide_eq_true z
                  injection this with this
                  rw [List.length_map] at this
                  omega
                · have := of_decide_eq_false z
                  rw [List.length_map] at this
                  cases e : ps.length with
                  | zero => exact absurd (by rw [e]; rfl) this
                  | succ n => omega
              refine ⟨_, rfl, G, _, rfl, .inl (SqL.of gr6.g), _, rfl, _, _, rfl, rfl, _, rfl, ?_⟩
              refine ite2 (fun q => ?_) (fun q => ?_)
              · refine ⟨_, rfl, a, c, 3, rfl, go6.1, by decide, by decide, fun r3 H7 a3 b3 g7 => ⟨rfl, _, rfl, ?_⟩⟩
                have go7 := go6.trans g7
                have gr7 := gr6.go nL nG go6.1 g7
                have ht7 := Go.tup go6.1 g7 ht6
                refine ite2 (fun q2 => ?_) (fun q2 => ?_)
                · refine ⟨go7, gr7, ht7, fun _ => ?_, fun z => Bool.noConfusion z⟩
                  have := of_decide_eq_true q
                  rw [List.length_map] at this
                  omega
                · exact ⟨_, rfl, G, _, rfl, .inl (SqL.of gr7.g), rfl, _, rfl, last H7 go7 gr7 ht7 _ rfl⟩
              · exact iteF ⟨_, rfl, G, _, rfl, .inl (SqL.of gr6.g), rfl, _, rfl, last H6 go6 gr6 ht6 _ rfl⟩
            · rintro b H7 ⟨go7, gr7, ht7, hT, hF⟩
              cases b with
              | false =>
                have p1 := hF rfl
                refine iteF ⟨_, _, _, t, ns, ps, rfl, go7, gr7, nd, bd, l7, p1, ht7, ⟨by have := one p1; omega, by omega, low, ris⟩, fun e => ?_⟩
                rcases ini with ⟨_, e2, _⟩ | ⟨e2, _⟩
                · rw [e2] at p1
                  exact absurd p1 (by decide)
                · rw [e] at e2
                  exact absurd e2 (by decide)
              | true =>
                have p7 := hT rfl
                refine iteT ⟨30, rfl, by decide, by decide, fun D2 nD2 => lc_range (lo := 0) (n := 30) (fun j H'' => H'' = upd H7 D2 (.lst ((fr j ps).map V.int))) rfl ?_ ?_⟩
                · rintro j _ hj rfl
                  refine ⟨rfl, ?_⟩
                  refine ⟨_, rfl, _, rfl, G, _, rfl, .inl (SqL.of (Ext.upd nD2 _ _ gr7.g)), rfl, flat_ints _, _, rfl, ?_⟩
                  have fl := fr_le (i := j) (ps := ps)
                  refine ite2 (fun q => ?_) (fun q => ?_)
                  · have q : (!inV (V.int (0 + (j : Int))) (ps.map V.int)) = true := q
                    rw [inV_ints] at q
                    have h : ¬ (0 + (j : Int)) ∈ ps := fun z => by rw [decide_eq_true z] at q; cases q
                    refine ⟨_, rfl, _, upd_same, small1000 (by rw [List.length_map]; omega), ?_⟩
                    rw [upd_upd, fr_succ, if_neg h, List.map_append]
                    rfl
                  · have q : ¬ (!inV (V.int (0 + (j : Int))) (ps.map V.int)) = true := q
                    rw [inV_ints] at q
                    have h : (0 + (j : Int)) ∈ ps := Classical.byContradiction fun z => q (by rw [decide_eq_false z]; rfl)
                    rw [fr_succ, if_pos h, List.append_nil]
                · rintro _ rfl
                  have e8 : Ext H7 (upd H7 D2 (.lst ((fr 30 ps).map V.int))) := Ext.upd nD2
                  have hD2 : (upd H7 D2 (.lst ((fr 30 ps).map V.int))) D2 = some (.lst ((fr 30 ps).map V.int)) := upd_same
                  generalize upd H7 D2 (.lst ((fr 30 ps).map V.int)) = H8 at *
                  have go8 := go7.trans (Go.of_ext go7.1 e8)
                  have gr8 := gr7.ext e8
                  have nD2ac := go7.1.ne nD2
                  have lf := fr_many (ps := ps)
                  have lf2 := fr_le (i := 30) (ps := ps)
                  refine ⟨_, rfl, _, rfl, _, rfl, _, rfl, D2, _, rfl, .inl (SqL.of hD2), by show 3 ≤ sizeLine; decide, fun u nu => ?_⟩
                  have nuac := go8.1.ne nu
                  have e9 := Ext.upd (o := .lst [.int 1, .int 3, .int (((fr 30 ps).map V.int).length : Int)]) nu
                  have go9 := go8.trans (Go.of_ext go8.1 e9)
                  refine ⟨a, c, u, _, rfl, go9.1, nuac.1, nuac.2, upd_same, (fun z => nomatch z), (by show 3 ≤ 1000; decide), fun x H10 hx g10 => ?_⟩
                  have go10 := go9.trans g10
                  obtain ⟨z, rfl, z1, z2⟩ : ∃ z : Int, x = .int z ∧ 1 ≤ z ∧ z ≤ (fr 30 ps).length := by
                    rw [List.length_map] at hx
                    rcases List.mem_cons.mp hx with rfl | hx
                    · exact ⟨1, rfl, by decide, by omega⟩
                    rcases List.mem_cons.mp hx with rfl | hx
                    · exact ⟨3, rfl, by decide, by omega⟩
                    · exact ⟨_, List.mem_singleton.mp hx, by omega, Int.le_refl _⟩
                  refine ⟨a, c, z, rfl, go10.1, by omega, by omega, fun r H11 h0 hlt g11 => ?_⟩
                  have go11 := go10.trans g11
                  have gr11 := ((gr8.ext e9).go nL nG go9.1 g10).go nL nG go10.1 g11
                  have hD11 := g11.2 _ _ nD2ac.1 nD2ac.2 (g10.2 _ _ nD2ac.1 nD2ac.2 (e9 _ _ hD2))
                  have lt : r.toNat < (fr 30 ps).length := by omega
                  have hy : ((fr 30 ps).map V.int)[r.toNat]? = some (V.int (fr 30 ps)[r.toNat]) := by rw [List.getElem?_map, List.getElem?_eq_getElem lt]; rfl
                  obtain ⟨f0, f29, fno⟩ := fr_mem (List.getElem_mem lt)
                  generalize (fr 30 ps)[r.toNat] = y at *
                  refine ⟨D2, _, r, _, rfl, rfl, SqL.of hD11, at_of (j := r.toNat) (by omega) hy, by show 1 ≤ sizeLine; decide, fun t2 nt2 => ?_⟩
                  have e12 := Ext.upd (o := .tup [V.int y]) nt2
                  have ht12 : (upd H11 t2 (.tup [V.int y])) t2 = some (.tup [V.int y]) := upd_same
                  generalize upd H11 t2 (.tup [V.int y]) = H12 at *
                  have go12 := go11.trans (Go.of_ext go11.1 e12)
                  have gr12 := gr11.ext e12
                  refine ⟨_, rfl, .inl ⟨rfl, _, SqL.of gr12.g⟩, _, rfl, _, _, _, _, rfl, rfl, SqT.of ht12, rfl, G, _, _, rfl, rfl, gr12.g, small1000 (by rw [List.length_map]; omega), ?_⟩
                  have e1 : ps.map V.int ++ [V.int y] = (ps ++ [y]).map V.int := by rw [List.map_append]; rfl
                  rw [e1]
                  refine ⟨_, _, _, t2, [y], ps ++ [y], rfl, Go.put bag go12 nG1, ⟨by rw [upd_ne neLG]; exact gr12.l, upd_same, PT2.mono (fun b ys z => by rw [upd_ne (lst_ne gr12.g z)]; exact z) gr12.pt⟩, ?_, ?_, ?_, ?_, ?_, ⟨(by show 1 ≤ 1; decide), (by show 1 ≤ 4; decide), ?_, ?_⟩, fun _ => rfl⟩
                  · refine List.nodup_append.mpr ⟨nd, by simp, fun x hx z hz => ?_⟩
                    rw [List.mem_singleton.mp hz]
                    exact fun e => fno (e ▸ hx)
                  · intro p hp
                    rcases List.mem_append.mp hp with hp | hp
                    · exact bd p hp
                    · rw [List.mem_singleton.mp hp]
                      omega
                  · rw [List.length_append]
                    exact p7
                  · rw [List.length_append]
                    exact Nat.le_add_left _ _
                  · rw [upd_ne (lst_ne gr12.g ht12)]
                    exact ht12
                  · intro n hn
                    rw [List.mem_singleton.mp hn]
                    omega
                  · simp
          · rintro σ' H8 ⟨v6, v7, v9, t, ns, ps, rfl, go8, gr8, nd, bd, l7, one, ht8, cl, fst⟩
            refine ⟨_, rfl, _, rfl, notin_L ht8 gr8.l gr8.pt ⟨_, rfl, ?_⟩⟩
            have ln := PT2.len gr8.pt
            refine ite2 (fun q => ?_) (fun q => ?_)
            · have nin : ns ∉ ll := fun z => by rw [decide_eq_true z] at q; cases q
              refine ⟨_, rfl, t, ns, rfl, ht8, cl.1, cl.2.1, fun fl fs H9 e9 hf pf => ⟨fl, rfl, ⟨_, SqL.of hf⟩, fun D3 nD3 => ?_⟩⟩
              have hL9 := e9 _ _ gr8.l
              have lf : (facesL ns).length ≤ 4 := by
                unfold facesL
                split
                · decide
                · rw [List.length_map, List.length_range]; exact cl.2.1
              refine lc_list (K := K) (a := fl) (xs := fs.map V.ref) (fun j H' => Ext H9 H' ∧ H' D3 = some (.lst ((((facesL ns).take j).map fun f => decide (f ∈ ll)).map V.bl))) ⟨Ext.upd nD3, upd_same⟩ (fun j H' _ z => SqL.of (z.1 _ _ hf)) ?_ ?_
              · rintro j u H' hu ⟨ex, hD⟩
                rw [List.getElem?_map] at hu
                cases hj : fs[j]? with
                | none => rw [hj] at hu; cases hu
                | some g =>
                  rw [hj] at hu
                  cases hu
                  obtain ⟨fl', hfl, hg⟩ := pf.get hj
                  have ex0 := e9.trans ex
                  refine ⟨rfl, tyes_in ⟨_, rfl, _, rfl, in_L (ex _ _ hg) (ex _ _ hL9) (PT2.mono (fun _ _ z => ex0 _ _ z) gr8.pt) ⟨_, hD, small1000 (by rw [List.length_map, List.length_map, List.length_take]; omega), fun b' o eo => ?_, ?_⟩⟩⟩
                  · rw [upd_ne (ne_of_none eo nD3)]
                    exact ex _ _ eo
                  · rw [upd_same, List.take_succ, hfl, List.map_append, List.map_append]
                    rfl
              · rintro H' ⟨ex, hD⟩
                have lfs : (fs.map V.ref).length = (facesL ns).length := by rw [List.length_map, PT2.len pf]
                rw [lfs, List.take_of_length_le (Nat.le_refl _)] at hD
                have e10 := e9.trans ex
                have go10 := go8.trans (Go.of_ext go8.1 e10)
                have gr10 := gr8.ext e10
                cases ball : ((facesL ns).map fun f => decide (f ∈ ll)).all id with
                | false =>
                  refine ⟨D3, _, rfl, SqL.of hD, false, congrArg V.bl ball, ?_⟩
                  refine iteF ⟨⟨_, _, _, _, _, rfl⟩, go10, as, ll, ps, gr10, gd, lm, nd, bd, l7, .inr ⟨?_, one⟩⟩
                  cases e : as with
                  | nil =>
                    have h1 := fst e
                    unfold facesL at ball
                    rw [if_pos h1] at ball
                    cases ball
                  | cons x r => exact Nat.succ_le_succ (Nat.zero_le _)
                | true =>
                  refine ⟨D3, _, rfl, SqL.of hD, true, congrArg V.bl ball, ?_⟩
                  refine iteT ⟨_, rfl, .inl ⟨rfl, _, SqL.of gr10.l⟩, _, rfl, L, _, _, rfl, rfl, gr10.l, small1000 (by rw [List.length_map]; omega), ?_⟩
                  have e1 : as.map V.ref ++ [V.ref t] = (as ++ [t]).map V.ref := by rw [List.map_append]; rfl
                  rw [e1]
                  have ht10 := e10 _ _ ht8
                  refine ⟨⟨_, _, _, _, _, rfl⟩, Go.put bag go10 nL1, as ++ [t], ll ++ [ns], ps, ⟨upd_same, by rw [upd_ne neLG.symm]; exact gr10.g, PT2.mono (fun b ys z => by rw [upd_ne (lst_ne gr10.l z)]; exact z) (gr10.pt.snoc ht10)⟩, good_snoc.mpr ⟨gd, cl, nin, fun g hg => ?_⟩, by rw [List.length_append]; exact lm', nd, bd, l7, .inr ⟨by rw [List.length_append]; exact Nat.le_add_left _ _, one⟩⟩
                  exact of_decide_eq_true (List.all_eq_true.mp ball _ (List.mem_map_of_mem hg))
            · have isin : ns ∈ ll := Classical.byContradiction fun z => q (by rw [decide_eq_false z]; rfl)
              refine iteF ⟨⟨_, _, _, _, _, rfl⟩, go8, as, ll, ps, gr8, gd, lm, nd, bd, l7, .inr ⟨?_, one⟩⟩
              have := List.length_pos_of_mem isin
              omega
      · exact ⟨⟨_, _, _, _, _, rfl⟩, go2, as, ll, ps, gr2, gd, lm, nd, bd, l7, by
          rcases ini with ⟨_, _, e⟩ | ini
          · exfalso
            subst e
            exact q (decide_eq_true (by show (0 : Int) < m; omega))
          · exact .inr ini⟩
    · rintro σ' H' ⟨⟨v5, v6, v7, v8, v9, rfl⟩, go2, as, ll, ps, gr2, gd, lm, nd, bd, l7, ini⟩
      refine ⟨_, rfl, ?_⟩
      exact k L as ll H' go2 nL.1 nL.2 gr2.l gr2.pt gd (by omega)
end
end V44

set_option Elab.async false
set_option linter.all false
set_option maxRecDepth 100000
set_option maxHeartbeats 4000000
set_option pp.maxSteps 60
/-! A comprehension over anything, its test told beforehand: what is made of each turn. -/
namespace V44
open PySem L2
/-- tuples stay -/
def TExt (H H' : Hp) : Prop := ∀ b xs, H b = some (.tup xs) → H' b = some (.tup xs)
theorem TExt.of {H H' : Hp} (e : Ext H H') : TExt H H' := fun b xs h => e b _ h
theorem TExt.trans {H H1 H2 : Hp} (x : TExt H H1) (y : TExt H1 H2) : TExt H H2 := fun b xs h => y b xs (x b xs h)
theorem TExt.put {H : Hp} {l : Addr} {xs ys : List V} (h : H l = some (.lst xs)) : TExt H (upd H l (.lst ys)) := fun b zs hb => by
  rw [upd_ne (lst_ne h hb)]
  exact hb
theorem lc_gen {J : It} {n : Nat} {G : Hp → Prop} {Y : Nat → Hp → V → Hp → Prop} (w : Walk J n G Y) {g : TG} {tt : L2.TT} {te : TE} {vs : List Nat} {σ : L2.St} {H : Hp} {D : Addr} {Qd : Hp → Prop} (nD : H D = none) (n1000 : n ≤ 1000) (p : Nat → Bool) (Pr : Nat → V → Hp → Prop)
    (mono : ∀ i y H1 H2, TExt H1 H2 → Pr i y H1 → Pr i y H2) (hG : ∀ H', Ext H H' → G H')
    (hs : ∀ i x H1 H' (R : VK) (N : Hp → Prop), i < n → Ext H H1 → Y i H1 x H' → (p i = true → ∀ y H4, Ext H1 H4 → Pr i y H4 → R y H4) → (p i = false → ∀ H4, Ext H1 H4 → N H4) →
      g x (wipe σ vs) H' fun σ2 H2 => wipe σ2 vs = wipe σ vs ∧ tt σ2 H2 fun b H3 => if b = true then te σ2 H3 R else N H3)
    (hd : ∀ ys H', Ext H H' → H' D = some (.lst ys) → Paired (fun i y => Pr i y H') ((List.range n).filter p) ys → Qd H') :
    ∃ W : Nat → Nat → Hp → Prop, (∃ m, W 0 m (upd H D (.lst []))) ∧ ∀ i m H, W i m H →
      (J.stop i H ∧ Qd H) ∨ (J.go i H ∧ ∃ Nx : Hp → Prop, (∀ H', Nx H' → ∃ m', m' < m ∧ W (i + 1) m' H') ∧ ∀ x H', J.yld i H x H' → g x (wipe σ vs) H' fun σ2 H2 => wipe σ2 vs = wipe σ vs ∧ tt σ2 H2 fun b H3 =>
        if b = true then te σ2 H3 fun y H4 => ∃ acc, H4 D = some (.lst acc) ∧ acc.length < sizeLine ∧ Nx (upd H4 D (.lst (acc ++ [y]))) else Nx H3) := by
  refine lc_it w (fun i H' => Ext H H' ∧ ∃ ys, H' D = some (.lst ys) ∧ Paired (fun i y => Pr i y H') ((List.range i).filter p) ys) ⟨Ext.upd nD, [], upd_same, .nil⟩ (fun i H' _ z => hG H' z.1) ?_ ?_
  · rintro i x H1 H' hi ⟨e1, ys, hD, pr⟩ y
    have ly : ys.length ≤ i := by
      rw [← Paired.length pr]
      exact Nat.le_trans (List.length_filter_le _ _) (by rw [List.length_range]; exact Nat.le_refl _)
    refine hs i x H1 H' _ _ hi e1 y (fun hp z H4 e4 hz => ?_) (fun hp H4 e4 => ?_)
    · have hD4 := e4 _ _ hD
      have t4 : TExt H4 (upd H4 D (.lst (ys ++ [z]))) := TExt.put hD4
      refine ⟨ys, hD4, small1000 (by omega), fun b o hb => ?_, ys ++ [z], upd_same, ?_⟩
      · rw [upd_ne (ne_of_none hb nD)]
        exact e4 _ _ (e1 _ _ hb)
      · rw [List.range_succ, List.filter_append]
        have ef : [i].filter p = [i] := by rw [List.filter_cons, if_pos hp]; rfl
        rw [ef]
        exact Paired.snoc (Paired.imp' (fun j u q => mono _ _ _ _ ((TExt.of e4).trans t4) q) pr) (mono _ _ _ _ t4 hz)
    · refine ⟨e1.trans e4, ys, e4 _ _ hD, ?_⟩
      rw [List.range_succ, List.filter_append]
      have ef : [i].filter p = [] := by rw [List.filter_cons, if_neg (by rw [hp]; exact Bool.false_ne_true)]; rfl
      rw [ef, List.append_nil]
      exact Paired.imp' (fun j u q => mono _ _ _ _ (TExt.of e4) q) pr
  · rintro H' ⟨e, ys, hD, pr⟩
    exact hd ys H' e hD pr
/-- .. of flags -/
theorem flags_of {t : Nat → Bool} {n : Nat} {ys : List V} (h : Paired (fun i y => y = V.bl (t i)) ((List.range n).filter fun _ => true) ys) : ys = ((List.range n).map t).map V.bl := by
  rw [List.filter_eq_self.mpr fun _ _ => rfl] at h
  generalize List.range n = r at h
  induction h with
  | nil => rfl
  | cons a _ ih => rw [List.map_cons, List.map_cons, ← ih, a]
theorem vals_of {f : Nat → V} {n : Nat} {p : Nat → Bool} {ys : List V} (h : Paired (fun i y => y = f i) ((List.range n).filter p) ys) : ys = ((List.range n).filter p).map f := by
  generalize (List.range n).filter p = r at h
  induction h with
  | nil => rfl
  | cons a _ ih => rw [List.map_cons, ← ih, a]
theorem range_map {α β : Type} {ds : List α} {n : Nat} (f : α → β) (z : α) (h : n = ds.length) : (List.range n).map (fun i => f (ds.getD i z)) = ds.map f := by
  subst h
  refine List.ext_getElem (by simp) fun i h1 h2 => ?_
  simp at h1
  simp [List.getElem?_eq_getElem h1]
def rLenS (K : PySem.W.Frag) : List V → Hp → VK → Prop := fun xs H Q => ∃ p ys, xs = [.ref p] ∧ (SqL K H p ys ∨ SqT K H p ys) ∧ Q (.int ys.length) H
theorem call_lenS {X : Cx} : CallR X (.builtin "len") (rLenS X.K) := call_len_seq
end V44

set_option Elab.async false
set_option linter.all false
set_option maxRecDepth 100000
set_option maxHeartbeats 4000000
set_option pp.maxSteps 60
/-! Rows over a prime: inverse, pivot, scaled, less. -/
namespace V44
open PySem L2
abbrev sInv : Stmt := top 20
abbrev sPiv : Stmt := top 21
abbrev sScaled : Stmt := top 22
abbrev sLess : Stmt := top 23
def Pr (p : Int) : Prop := p = 2 ∨ p = 3 ∨ p = 5 ∨ p = 7 ∨ p = 11 ∨ p = 13
theorem Pr.le {p : Int} (h : Pr p) : 2 ≤ p ∧ p ≤ 13 := by unfold Pr at h; omega
theorem inv_nat : ∀ p ∈ [2, 3, 5, 7, 11, 13], ∀ x ∈ List.range p, 0 < x → ∃ i ∈ List.range (p - 1), x * (i + 1) % p = 1 := by decide +kernel
theorem inv_ex {p x : Int} (hp : Pr p) (h0 : 0 < x) (h1 : x < p) : ∃ i : Nat, i < (p - 1).toNat ∧ x * (1 + (i : Int)) % p = 1 := by
  have e1 : x = ((x.toNat : Nat) : Int) := by omega
  have hm : p.toNat ∈ [2, 3, 5, 7, 11, 13] := by
    rcases hp with rfl | rfl | rfl | rfl | rfl | rfl <;> decide
  obtain ⟨i, hi, e⟩ := inv_nat p.toNat hm x.toNat (List.mem_range.mpr (by omega)) (by omega)
  have := List.mem_range.mp hi
  refine ⟨i, by omega, ?_⟩
  have e2 : p = ((p.toNat : Nat) : Int) := by have := hp.le; omega
  rw [e1, e2]
  have : ((x.toNat * (i + 1) % p.toNat : Nat) : Int) = ((1 : Nat) : Int) := by rw [e]
  rw [Int.natCast_emod, Int.natCast_mul, Int.natCast_add] at this
  rw [Int.add_comm 1 (i : Int)]
  exact this
theorem cmul {i j : Int} (h1 : -1000 ≤ i) (h2 : i ≤ 1000) : CMul i j := .inl ⟨by omega, by omega⟩
/-- a row of n numbers below p -/
def RowG (p : Int) (n : Nat) (ns : List Int) : Prop := ns.length = n ∧ ∀ x ∈ ns, 0 ≤ x ∧ x < p
def RowL (p : Int) (n : Nat) (H : Hp) (l : Addr) : Prop := ∃ ns, H l = some (.lst (ns.map V.int)) ∧ RowG p n ns
theorem RowL.ext {p : Int} {n : Nat} {H H' : Hp} {l : Addr} (e : Ext H H') (h : RowL p n H l) : RowL p n H' l := let ⟨ns, h1, h2⟩ := h; ⟨ns, e _ _ h1, h2⟩
def spInv : Sp := fun vs H Q _ => ∃ p x : Int, vs = [.int p, .int x] ∧ Pr p ∧ 0 < x ∧ x < p ∧ ∀ i : Int, 0 < i → i < p → Q (.int i) H
def spPiv : Sp := fun vs H Q _ => ∃ (l : Addr) (ns : List Int), vs = [.ref l] ∧ H l = some (.lst (ns.map V.int)) ∧ (∀ H', Ext H H' → Q .non H') ∧ ∀ (i : Nat) (x : Int) (H' : Hp), Ext H H' → ns[i]? = some x → x ≠ 0 → Q (.int (i : Int)) H'
def spScaled : Sp := fun vs H Q _ => ∃ (p k : Int) (l : Addr) (ns : List Int), vs = [.int p, .ref l, .int k] ∧ H l = some (.lst (ns.map V.int)) ∧ RowG p ns.length ns ∧ 0 ≤ k ∧ k < p ∧ p ≤ 13 ∧ ns.length ≤ 1000 ∧ ∀ (q : Addr) (H' : Hp), Ext H H' → H q = none → RowL p ns.length H' q → Q (.ref q) H'
def spLess : Sp := fun vs H Q _ => ∃ (p k : Int) (l o : Addr) (ns ms : List Int), vs = [.int p, .ref l, .int k, .ref o] ∧ H l = some (.lst (ns.map V.int)) ∧ H o = some (.lst (ms.map V.int)) ∧ RowG p ns.length ns ∧ RowG p ns.length ms ∧ 0 ≤ k ∧ k < p ∧ p ≤ 13 ∧ ns.length ≤ 1000 ∧ ∀ (q : Addr) (H' : Hp), Ext H H' → H q = none → RowL p ns.length H' q → Q (.ref q) H'
theorem row_of {p : Int} {ys : List V} {f : Nat → Int} {n : Nat} (hf : ∀ i, 0 ≤ f i ∧ f i < p) (h : Paired (fun i y => y = V.int (f i)) ((List.range n).filter fun _ => true) ys) : ∃ ns, ys = ns.map V.int ∧ RowG p n ns := by
  have e := vals_of (f := fun i => V.int (f i)) h
  rw [List.filter_eq_self.mpr fun _ _ => rfl] at e
  refine ⟨(List.range n).map f, by rw [e, List.map_map]; rfl, by rw [List.length_map, List.length_range], fun x hx => ?_⟩
  obtain ⟨i, _, rfl⟩ := List.mem_map.mp hx
  exact hf i
section
variable {P : Program} {w : World} {K : PySem.W.Frag} {mg : Str → Option Value} {base : Heap}
abbrev invN : List Str := ["prime", "worth", "other"]
theorem scInv : FnScope invN ["prime", "worth"] (defScope sInv) := ⟨rfl, rfl, rfl, by decide +kernel, rfl, by decide +kernel, by decide +kernel⟩
theorem ok_inv {f : Addr} {fd : FuncData} (F : L2.Fun K "inverse" "inverse" sInv f fd) (T : Gb mg) : FnOk P w K mg base CX0 1 f fd ["prime", "worth"] spInv := by
  refine F.ok scInv (fun vs H Q E h => ?_) (fun cdv A outer s H vs Q E hr h => ?_)
  · obtain ⟨p, x, rfl, _⟩ := h
    rfl
  · obtain ⟨p, x, rfl, hp, x0, xp, k⟩ := h
    have ple := hp.le
    refine ⟨_, pss_cons (ps_for PassesOwn.never rfl (pi_range2 (by rfl) T.rng (pa_cons pe_int (pa_cons (pv 0) pa_nil))) (pg_name (i := 2) scInv.nd rfl (Or.inl rfl))
      (pss_one (ps_if (pt_cmpR op_eq (pe_op op_mod (pe_op op_mul (pv 1) (pv 2)) (pv 0)) pe_int (nomark _)) (pss_one (ps_ret (pv 2))) pss_nil)))
      (pss_one (ps_ret pe_non)), ?_⟩
    refine ⟨_, rfl, 1, p, rfl, ⟨by decide, by decide, by omega, by omega⟩, for_range (lo := 1) (n := (p - 1).toNat) (fun i σ' H' => ∃ v, σ' = [some (.int p), some (.int x), v] ∧ H' = H ∧ ∀ j : Nat, j < i → ¬ x * (1 + (j : Int)) % p = 1) ⟨_, rfl, rfl, fun j hj => absurd hj (Nat.not_lt_zero j)⟩ ?_ ?_⟩
    · rintro i σ' H' hi ⟨v, rfl, rfl, no⟩
      refine ⟨_, rfl, _, rfl, _, _, rfl, rfl, cmul (by omega) (by omega), _, rfl, _, _, rfl, rfl, by omega, rfl, _, rfl, ?_⟩
      refine ite2 (fun _ => ?_) (fun z => ?_)
      · exact ⟨_, rfl, k _ (by omega) (by omega)⟩
      · refine ⟨_, rfl, rfl, fun j hj => ?_⟩
        by_cases e : j = i
        · rw [e]
          intro q
          exact z (decide_eq_true (show V.int (x * (1 + (i : Int)) % p) = V.int 1 by rw [q]))
        · exact no j (by omega)
    · rintro σ' H' ⟨v, rfl, rfl, no⟩
      obtain ⟨i, hi, e⟩ := inv_ex hp x0 xp
      exact absurd e (no i hi)
abbrev pivN : List Str := ["row", "at", "worth"]
theorem scPiv : FnScope pivN ["row"] (defScope sPiv) := ⟨rfl, rfl, rfl, by decide +kernel, rfl, by decide +kernel, by decide +kernel⟩
theorem ok_piv {f : Addr} {fd : FuncData} (F : L2.Fun K "pivot" "pivot" sPiv f fd) (T : Gb mg) : FnOk P w K mg base CX0 1 f fd ["row"] spPiv := by
  refine F.ok scPiv (fun vs H Q E h => ?_) (fun cdv A outer s H vs Q E hr h => ?_)
  · obtain ⟨l, ns, rfl, _⟩ := h
    rfl
  · obtain ⟨l, ns, rfl, hl, k0, k⟩ := h
    refine ⟨_, pss_cons (ps_for PassesOwn.never rfl (pi_enum (by rfl) T.enum (pa_cons (pv 0) pa_nil)) (pg_tup rfl (pgs_cons (pg_name (i := 1) scPiv.nd rfl (Or.inl rfl)) (pgs_cons (pg_name (i := 2) scPiv.nd rfl (Or.inl rfl)) pgs_nil)))
      (pss_one (ps_if (pt_cmpR op_ne (pv 2) pe_int (nomark _)) (pss_one (ps_ret (pv 1))) pss_nil)))
      (pss_one (ps_ret pe_non)), ?_⟩
    refine ⟨_, rfl, l, _, rfl, SqL.of hl, ?_⟩
    refine for_it walk_enum (fun i σ' H' => ∃ v1 v2 : Option V, σ' = [some (.ref l), v1, v2] ∧ Ext H H') ⟨_, _, rfl, Ext.rfl'⟩ (fun i σ' H' _ ⟨_, _, _, e⟩ => SqL.of (e _ _ hl)) ?_ ?_
    · rintro i z σ' H2 H2' hi ⟨v1, v2, rfl, e2⟩ ⟨t, x, y, rfl, nt, rfl, hx, hy⟩
      cases hx
      obtain ⟨m, hm, rfl⟩ := map_int_get hy
      have et := e2.trans (Ext.upd (o := .tup [V.int (i : Int), .int m]) nt)
      refine ⟨t, _, rfl, SqT.of upd_same, rfl, _, _, rfl, _, _, rfl, rfl, ?_⟩
      refine ⟨_, rfl, rfl, _, rfl, ?_⟩
      refine ite2 (fun z => ?_) (fun _ => ⟨_, _, rfl, et⟩)
      refine ⟨_, rfl, k i m _ et hm fun q => ?_⟩
      rw [q] at z
      exact absurd z (by decide)
    · rintro σ' H2 ⟨v1, v2, rfl, e2⟩
      exact k0 _ e2
abbrev scaledN : List Str := ["prime", "row", "number", "worth"]
theorem scScaled : FnScope scaledN ["prime", "row", "number"] (defScope sScaled) := ⟨rfl, rfl, rfl, by decide +kernel, rfl, by decide +kernel, by decide +kernel⟩
theorem ok_scaled {f : Addr} {fd : FuncData} (F : L2.Fun K "scaled_row" "scaled_row" sScaled f fd) (T : Gb mg) : FnOk P w K mg base CX0 1 f fd ["prime", "row", "number"] spScaled := by
  refine F.ok scScaled (fun vs H Q E h => ?_) (fun cdv A outer s H vs Q E hr h => ?_)
  · obtain ⟨p, q, l, ns, rfl, _⟩ := h
    rfl
  · obtain ⟨p, q, l, ns, rfl, hl, g1, q0, qp, p13, ln, k⟩ := h
    have p0 : 0 < p := by omega
    refine ⟨_, pss_one (ps_ret (pe_lc (own := [("worth", 3)]) (g := gName 3) (tt := tYes) rfl scScaled.nd (pi_list (pv 1)) (blkOk_by (N := scaledN) (sc := defScope sScaled) (by decide +kernel)) (fun _ _ _ _ _ => (pg_name (i := 3) scScaled.nd rfl (Or.inl rfl))) (fun _ _ _ _ _ => pts_nil) (fun _ _ _ _ _ => (pe_op op_mod (pe_op op_mul (pv 3) (pv 2)) (pv 0))))), ?_⟩
    refine ⟨_, rfl, l, rfl, ⟨_, SqL.of hl⟩, fun D nD => ?_⟩
    refine lc_gen (n := (ns.map V.int).length) (p := fun _ => true) walk_list nD (by rw [List.length_map]; exact ln) (fun i y _ => y = V.int (ns.getD i 0 * q % p)) (fun _ _ _ _ _ z => z) (fun H' e => SqL.of (e _ _ hl)) ?_ ?_
    · rintro j y J J' R N hj e7 ⟨rfl, hy⟩ hR hN
      obtain ⟨m, hm, rfl⟩ := map_int_get hy
      have gm := g1.2 m (List.mem_of_getElem? hm)
      refine ⟨rfl, tyes_in ⟨_, rfl, _, rfl, _, _, rfl, rfl, cmul (by omega) (by omega), _, rfl, _, _, rfl, rfl, p0, ?_⟩⟩
      exact hR rfl _ _ Ext.rfl' (by rw [List.getD_eq_getElem?_getD, hm]; rfl)
    intro ys H' e hD pp
    obtain ⟨ms, rfl, g⟩ := row_of (f := fun i => ns.getD i 0 * q % p) (fun i => ⟨Int.emod_nonneg _ (by omega), Int.emod_lt_of_pos _ p0⟩) pp
    exact k D H' e nD ⟨ms, hD, by rw [List.length_map] at g; exact g⟩
abbrev lessN : List Str := ["prime", "row", "number", "other", "worth", "taken"]
theorem scLess : FnScope lessN ["prime", "row", "number", "other"] (defScope sLess) := ⟨rfl, rfl, rfl, by decide +kernel, rfl, by decide +kernel, by decide +kernel⟩
theorem ok_less {f : Addr} {fd : FuncData} (F : L2.Fun K "less" "less" sLess f fd) (T : Gb mg) (M : TowC mg) : FnOk P w K mg base CX0 1 f fd ["prime", "row", "number", "other"] spLess := by
  refine F.ok scLess (fun vs H Q E h => ?_) (fun cdv A outer s H vs Q E hr h => ?_)
  · obtain ⟨p, q, l, o, ns, ms, rfl, _⟩ := h
    rfl
  · obtain ⟨p, q, l, o, ns, ms, rfl, hl, ho, g1, g2, q0, qp, p13, ln, k⟩ := h
    have p0 : 0 < p := by omega
    have len := g2.1.symm
    refine ⟨_, pss_one (ps_ret (pe_lc (own := [("worth", 4), ("taken", 5)]) (g := gTup K 2 (gCons (gName 4) (gCons (gName 5) gNil))) (tt := tYes) rfl scLess.nd (pi_zip (by rfl) M.zip (pa_cons (pv 1) (pa_cons (pv 3) pa_nil))) (blkOk_by (N := lessN) (sc := defScope sLess) (by decide +kernel)) (fun _ _ _ _ _ => (pg_tup rfl (pgs_cons (pg_name (i := 4) scLess.nd rfl (Or.inl rfl)) (pgs_cons (pg_name (i := 5) scLess.nd rfl (Or.inl rfl)) pgs_nil)))) (fun _ _ _ _ _ => pts_nil) (fun _ _ _ _ _ => (pe_op op_mod (pe_op op_sub (pv 4) (pe_op op_mul (pv 2) (pv 5))) (pv 0))))), ?_⟩
    refine ⟨_, rfl, _, rfl, l, o, _, _, rfl, SqL.of hl, SqL.of ho, fun D nD => ?_⟩
    refine lc_gen (n := ns.length) (p := fun _ => true) (walk_zip (xs := ns.map V.int) (ys := ms.map V.int) (by rw [List.length_map, List.length_map]; omega)) nD ln (fun i y _ => y = V.int ((ns.getD i 0 - q * ms.getD i 0) % p)) (fun _ _ _ _ _ z => z) (fun H' e => ⟨SqL.of (e _ _ hl), SqL.of (e _ _ ho)⟩) ?_ ?_
    · rintro j y J J' R N hj e7 ⟨t, x, z, rfl, nt, rfl, hx, hz⟩ hR hN
      obtain ⟨m, hm, rfl⟩ := map_int_get hx
      obtain ⟨m2, hm2, rfl⟩ := map_int_get hz
      have gm := g2.2 m2 (List.mem_of_getElem? hm2)
      refine ⟨t, _, rfl, SqT.of upd_same, rfl, _, _, rfl, _, _, rfl, rfl, rfl, tyes_in ⟨_, rfl, _, rfl, _, rfl, _, _, rfl, rfl, cmul (by omega) (by omega), _, _, rfl, rfl, _, rfl, _, _, rfl, rfl, p0, ?_⟩⟩
      exact hR rfl _ _ (Ext.upd nt) (by rw [List.getD_eq_getElem?_getD, List.getD_eq_getElem?_getD, hm, hm2]; rfl)
    intro ys H' e hD pp
    obtain ⟨rs, rfl, g⟩ := row_of (f := fun i => (ns.getD i 0 - q * ms.getD i 0) % p) (fun i => ⟨Int.emod_nonneg _ (by omega), Int.emod_lt_of_pos _ p0⟩) pp
    exact k D H' e nD ⟨rs, hD, g⟩
end
end V44

set_option Elab.async false
set_option linter.all false
set_option maxRecDepth 100000
set_option maxHeartbeats 4000000
set_option pp.maxSteps 100
/-! Rows kept by their leading places. -/
namespace V44
open PySem L2
abbrev sCleared : Stmt := top 24
abbrev sKeep : Stmt := top 25
/-- entries of what is kept -/
def KeptL (p : Int) (n : Nat) (H : Hp) (kvs : List (Key × V)) : Prop := ∀ kv ∈ kvs, ∃ (at' : Nat) (l : Addr), kv = (.inl (at' : Int), .ref l) ∧ at' < n ∧ RowL p n H l
theorem KeptL.ext {p : Int} {n : Nat} {H H' : Hp} {kvs : List (Key × V)} (e : ∀ l, RowL p n H l → RowL p n H' l) (h : KeptL p n H kvs) : KeptL p n H' kvs := fun kv hk => let ⟨a, l, h1, h2, h3⟩ := h kv hk; ⟨a, l, h1, h2, e l h3⟩
/-- .. none of them the list at z -/
def Kept (p : Int) (n m : Nat) (z : Addr) (H : Hp) (kd : Addr) : Prop := ∃ kvs, H kd = some (.dK kvs) ∧ kvs.length ≤ m ∧ KeptL p n H kvs ∧ ∀ kv ∈ kvs, kv.2 ≠ V.ref z
theorem valV_mem {kvs : List (Key × V)} {k : Key} {v : V} (h : valV kvs k = some v) : (k, v) ∈ kvs := by
  unfold valV at h
  cases e : kvs.find? (fun kv => decide (kv.1 = k)) with
  | none => rw [e] at h; cases h
  | some q =>
    rw [e] at h
    cases h
    have h1 := List.find?_some e
    have h2 : q.1 = k := of_decide_eq_true h1
    have := List.mem_of_find?_eq_some e
    rw [← h2]
    exact this
theorem mem_putK {kvs : List (Key × V)} {k : Key} {v : V} {q : Key × V} (h : q ∈ putK kvs k v) : q ∈ kvs ∨ q = (k, v) := by
  unfold putK at h
  split at h
  · obtain ⟨r, hr, e⟩ := List.mem_map.mp h
    by_cases c : r.1 = k
    · rw [if_pos c] at e
      exact .inr (by rw [← e, c])
    · rw [if_neg c] at e
      exact .inl (by rw [← e]; exact hr)
  · rcases List.mem_append.mp h with z | z
    · exact .inl z
    · exact .inr (List.mem_singleton.mp z)
theorem items_get {kvs : List (Key × V)} {i : Nat} {x y : V} (hx : kvs[i]?.map (fun kv => kV kv.1) = some x) (hy : kvs[i]?.map Prod.snd = some y) : ∃ kv, kvs[i]? = some kv ∧ x = kV kv.1 ∧ y = kv.2 := by
  cases e : kvs[i]? with
  | none => rw [e] at hx; cases hx
  | some kv =>
    rw [e] at hx hy
    cases hx
    cases hy
    exact ⟨kv, rfl, rfl, rfl⟩
/-- all but the dict stays -/
def GoD (kd : Addr) (H H' : Hp) : Prop := ∀ b o, b ≠ kd → H b = some o → H' b = some o
theorem GoD.of {kd : Addr} {H H' : Hp} (e : Ext H H') : GoD kd H H' := fun b o _ h => e b o h
theorem GoD.trans {kd : Addr} {H H1 H2 : Hp} (x : GoD kd H H1) (y : GoD kd H1 H2) : GoD kd H H2 := fun b o n h => y b o n (x b o n h)
theorem GoD.put {kd : Addr} {H : Hp} {o : HO} : GoD kd H (upd H kd o) := fun b u n h => by rw [upd_ne n]; exact h
theorem lst_dk {H : Hp} {l kd : Addr} {xs : List V} {kvs : List (Key × V)} (h : H l = some (.lst xs)) (g : H kd = some (.dK kvs)) : l ≠ kd := fun e => by rw [e, g] at h; cases h
theorem RowL.go {p : Int} {n : Nat} {H H' : Hp} {l kd : Addr} {kvs : List (Key × V)} (hk : H kd = some (.dK kvs)) (g : GoD kd H H') (h : RowL p n H l) : RowL p n H' l := let ⟨ns, h1, h2⟩ := h; ⟨ns, g _ _ (lst_dk h1 hk) h1, h2⟩
def spCleared : Sp := fun vs H Q _ => ∃ (p : Int) (n : Nat) (l kd : Addr) (kvs : List (Key × V)), vs = [.int p, .ref l, .ref kd] ∧ Pr p ∧ n ≤ 1000 ∧ RowL p n H l ∧ H kd = some (.dK kvs) ∧ KeptL p n H kvs ∧ ∀ (q : Addr) (H' : Hp), Ext H H' → RowL p n H' q → Q (.ref q) H'
def spKeep : Sp := fun vs H Q _ => ∃ (p : Int) (n m : Nat) (l kd z : Addr), vs = [.int p, .ref l, .ref kd] ∧ Pr p ∧ n ≤ 1000 ∧ m ≤ 1000 ∧ RowL p n H l ∧ z ≠ kd ∧ (∃ oz, H z = some oz) ∧ Kept p n m z H kd ∧
  (∀ H', GoD kd H H' → Kept p n (m + 1) z H' kd → Q .non H') ∧ ∀ (i : Nat) (H' : Hp), i < n → GoD kd H H' → Kept p n (m + 1) z H' kd → Q (.int (i : Int)) H'
theorem row_at {p : Int} {n : Nat} {ns : List Int} {i : Nat} (g : RowG p n ns) (hi : i < n) : ∃ x, atI (ns.map V.int) (i : Int) = some (.int x) ∧ ns[i]? = some x ∧ 0 ≤ x ∧ x < p := by
  have h1 : i < ns.length := by rw [g.1]; exact hi
  refine ⟨ns[i], at_of (j := i) (by omega) (by rw [List.getElem?_map, List.getElem?_eq_getElem h1]; rfl), List.getElem?_eq_getElem h1, g.2 _ (List.getElem_mem h1)⟩
section
variable {P : Program} {w : World} {K : PySem.W.Frag} {mg : Str → Option Value} {base : Heap}
abbrev clearedN : List Str := ["prime", "row", "kept", "at", "other"]
theorem scCleared : FnScope clearedN ["prime", "row", "kept"] (defScope sCleared) := ⟨rfl, rfl, rfl, by decide +kernel, rfl, by decide +kernel, by decide +kernel⟩
theorem ok_cleared {f : Addr} {fd : FuncData} (F : L2.Fun K "cleared" "cleared" sCleared f fd) (cL : Cal P w K mg base 1 "less" spLess []) : FnOk P w K mg base CX0 2 f fd ["prime", "row", "kept"] spCleared := by
  refine F.ok scCleared (fun vs H Q E h => ?_) (fun cdv A outer s H vs Q E hr h => ?_)
  · obtain ⟨p, n, l, kd, kvs, rfl, _⟩ := h
    rfl
  · obtain ⟨p, n, l, kd, kvs, rfl, hp, n1000, hl, hk, gk, k⟩ := h
    have hp' := hp.le
    refine ⟨_, pss_cons (ps_lock (ps_for PassesOwn.never rfl (pi_items (pv 2)) (pg_tup rfl (pgs_cons (pg_name (i := 3) scCleared.nd rfl (Or.inl rfl)) (pgs_cons (pg_name (i := 4) scCleared.nd rfl (Or.inl rfl)) pgs_nil)))
      (pss_one (ps_if (pt_cmpR op_ne (pe_ix ix_list (pv 1) (pv 3) (fun _ _ => rfl)) pe_int (nomark _)) (pss_one (ps_set (i := 1) scCleared.nd rfl (Or.inl rfl) (C8.pe_c cL hr (by decide) (by rfl) (pa_cons (pv 0) (pa_cons (pv 1) (pa_cons (pe_ix ix_list (pv 1) (pv 3) (fun _ _ => rfl)) (pa_cons (pv 4) pa_nil))))))) pss_nil))))
      (pss_one (ps_ret (pv 1))), ?_⟩
    refine ⟨kd, .dK kvs, hk, True.intro, fun od => ?_⟩
    have gl0 : ∀ q, RowL p n H q → RowL p n (upd H kd (.frz od (.dK kvs))) q := fun q h => h.go hk GoD.put
    have hk1 : (upd H kd (.frz od (.dK kvs))) kd = some (.frz od (.dK kvs)) := upd_same
    have back : ∀ J, Ext (upd H kd (.frz od (.dK kvs))) J → Ext H (upd J kd (.dK kvs)) := fun J e b o h => by
      by_cases c : b = kd
      · rw [c] at h ⊢
        rw [upd_same, ← h, hk]
      · rw [upd_ne c]
        exact e _ _ (by rw [upd_ne c]; exact h)
    have gk1 := gk.ext gl0
    have hl1 := gl0 _ hl
    generalize upd H kd (.frz od (.dK kvs)) = H1 at *
    refine ⟨_, rfl, kd, od, kvs, rfl, hk1, ?_⟩
    refine for_it walk_items (fun i σ' J => ∃ (q : Addr) (v3 v4 : Option V), σ' = [some (.int p), some (.ref q), some (.ref kd), v3, v4] ∧ Ext H1 J ∧ RowL p n J q) ⟨l, _, _, rfl, Ext.rfl', hl1⟩ (fun i σ' J _ ⟨_, _, _, _, e, _⟩ => e _ _ hk1) ?_ ?_
    · rintro i z σ' J J' hi ⟨q, v3, v4, rfl, e, hq⟩ ⟨t, x, y, rfl, nt, rfl, hx, hy⟩
      obtain ⟨kv, hg, rfl, rfl⟩ := items_get hx hy
      · obtain ⟨a, o, rfl, an, ho⟩ := gk1 _ (List.mem_of_getElem? hg)
        have et := Ext.upd (o := .tup [kV (.inl (a : Int)), V.ref o]) nt
        refine ⟨t, _, rfl, SqT.of upd_same, rfl, _, _, rfl, _, _, rfl, rfl, ?_⟩
        have hq' := hq.ext et
        have ho' := (ho.ext e).ext et
        have e' := e.trans et
        show tIfS _ _ _ _ _ (upd J t (.tup [kV (.inl (a : Int)), V.ref o]))
        generalize upd J t (.tup [kV (.inl (a : Int)), V.ref o]) = J2 at *
        obtain ⟨ns, hns, g⟩ := hq'
        obtain ⟨ms, hms, g2⟩ := ho'
        obtain ⟨c, hc, _, c0, cp⟩ := row_at g an
        refine ⟨_, rfl, _, rfl, q, _, (a : Int), .int c, rfl, rfl, SqL.of hns, hc, rfl, _, rfl, ?_⟩
        refine ite2 (fun _ => ?_) (fun _ => ⟨q, _, _, rfl, e', ns, hns, g⟩)
        refine ⟨_, rfl, _, rfl, _, rfl, _, rfl, q, _, (a : Int), .int c, rfl, rfl, SqL.of hns, hc, _, rfl, p, c, q, o, ns, ms, rfl, hns, hms, by rw [g.1]; exact g, by rw [g.1]; exact g2, c0, cp, hp'.2, by rw [g.1]; exact n1000, fun q2 J3 e3 _ r3 => ?_⟩
        exact ⟨q2, _, _, rfl, e'.trans e3, by rw [g.1] at r3; exact r3⟩
    · rintro σ' J ⟨q, v3, v4, rfl, e, hq⟩
      refine ⟨e _ _ hk1, _, rfl, k q _ (back J e) ?_⟩
      obtain ⟨ns, h1, h2⟩ := hq
      exact ⟨ns, by rw [upd_ne fun z => by rw [z, e _ _ hk1] at h1; cases h1]; exact h1, h2⟩
abbrev keepN : List Str := ["prime", "row", "kept", "rest", "at", "elder"]
theorem scKeep : FnScope keepN ["prime", "row", "kept"] (defScope sKeep) := ⟨rfl, rfl, rfl, by decide +kernel, rfl, by decide +kernel, by decide +kernel⟩
theorem ok_keep {f : Addr} {fd : FuncData} (F : L2.Fun K "keep" "keep" sKeep f fd) (T : Gb mg) (cC : Cal P w K mg base 2 "cleared" spCleared []) (cP : Cal P w K mg base 1 "pivot" spPiv []) (cS : Cal P w K mg base 1 "scaled_row" spScaled []) (cI : Cal P w K mg base 1 "inverse" spInv []) (cL : Cal P w K mg base 1 "less" spLess []) : FnOk P w K mg base CX0 3 f fd ["prime", "row", "kept"] spKeep := by
  refine F.ok scKeep (fun vs H Q E h => ?_) (fun cdv A outer s H vs Q E hr h => ?_)
  · obtain ⟨p, n, m, l, kd, z, rfl, _⟩ := h
    rfl
  · obtain ⟨p, n, m, l, kd, zz, rfl, hp, n1000, m1000, hl, zk, ⟨oz, hz⟩, ⟨kvs, hk, lk, gk, az⟩, k0, k⟩ := h
    have hp' := hp.le
    have hu1 := hu_of hr
    refine ⟨_, pss_cons (ps_set (i := 3) scKeep.nd rfl (Or.inl rfl) (C8.pe_c cC hr (by decide) (by rfl) (pa_cons (pv 0) (pa_cons (pv 1) (pa_cons (pv 2) pa_nil)))))
      (pss_cons (ps_set (i := 4) scKeep.nd rfl (Or.inl rfl) (C8.pe_c cP hr (by decide) (by rfl) (pa_cons (pv 3) pa_nil)))
      (pss_cons (ps_if (pt_cmpR op_notN (pv 4) pe_non (nomark _)) (pss_cons (ps_set (i := 3) scKeep.nd rfl (Or.inl rfl) (C8.pe_c cS hr (by decide) (by rfl) (pa_cons (pv 0) (pa_cons (pv 3) (pa_cons (C8.pe_c cI hr (by decide) (by rfl) (pa_cons (pv 0) (pa_cons (pe_ix ix_list (pv 3) (pv 4) (fun _ _ => rfl)) pa_nil))) pa_nil)))))
      (pss_cons (ps_for PassesOwn.never rfl (pi_list (pe_callTy (call_listD rfl) (by rfl) T.list (by decide +kernel) (pa_cons (pv 2) pa_nil))) (pg_name (i := 5) scKeep.nd rfl (Or.inl rfl))
      (pss_one (ps_if (pt_cmpR op_ne (pe_ix ix_list (pe_dget hu1 (pv 2) (pv 5) (fun _ _ => rfl)) (pv 4) (fun _ _ => rfl)) pe_int (nomark _)) (pss_one (ps_dput hu1 (pv 2) (pv 5) (C8.pe_c cL hr (by decide) (by rfl) (pa_cons (pv 0) (pa_cons (pe_dget hu1 (pv 2) (pv 5) (fun _ _ => rfl)) (pa_cons (pe_ix ix_list (pe_dget hu1 (pv 2) (pv 5) (fun _ _ => rfl)) (pv 4) (fun _ _ => rfl)) (pa_cons (pv 3) pa_nil))))) rfl)) pss_nil)))
      (pss_one (ps_dput hu1 (pv 2) (pv 4) (pv 3) rfl)))) pss_nil)
      (pss_one (ps_ret (pv 4))))), ?_⟩
    refine ⟨_, rfl, _, rfl, _, rfl, p, n, l, kd, kvs, rfl, hp, n1000, hl, hk, gk, fun q H1 e1 hq => ?_⟩
    have hk1 := e1 _ _ hk
    have gk1 := gk.ext fun l h => h.ext e1
    obtain ⟨ns, hns, g⟩ := hq
    refine ⟨_, rfl, q, ns, rfl, hns, fun H2 e2 => ?_, fun i x H2 e2 hx x0 => ?_⟩
    · refine ⟨_, rfl, rfl, _, rfl, ?_⟩
      refine ite2 (fun z => absurd z (by decide)) (fun _ => ?_)
      have go := GoD.of (kd := kd) (e1.trans e2)
      exact ⟨_, rfl, k0 _ go ⟨kvs, e2 _ _ hk1, by omega, gk1.ext (fun l h => h.ext e2), az⟩⟩
    · have xm := g.2 x (List.mem_of_getElem? hx)
      have iln : i < n := by
        have := (List.getElem?_eq_some_iff.mp hx).1
        rw [g.1] at this
        exact this
      have gl : RowG p ns.length ns := by rw [g.1]; exact g
      have ln : ns.length ≤ 1000 := by rw [g.1]; exact n1000
      obtain ⟨x', hx', hx2, _, _⟩ := row_at g iln
      have ex : x' = x := by rw [hx] at hx2; injection hx2 with z; exact z.symm
      subst ex
      refine ⟨_, rfl, rfl, _, rfl, ?_⟩
      refine ite2 (fun _ => ?_) (fun z => absurd rfl z)
      refine ⟨_, rfl, _, rfl, _, rfl, _, rfl, _, rfl, q, _, (i : Int), .int x', rfl, rfl, SqL.of (e2 _ _ hns), hx', p, x', rfl, hp, by omega, xm.2, fun iv iv0 ivp => ?_⟩
      refine ⟨p, iv, q, ns, rfl, e2 _ _ hns, gl, by omega, ivp, hp'.2, ln, fun q2 H3 e3 nq2 hq2 => ?_⟩
      have q2z : q2 ≠ zz := fun e => by rw [e, e2 _ _ (e1 _ _ hz)] at nq2; cases nq2
      rw [g.1] at hq2
      have hk3 := e3 _ _ (e2 _ _ hk1)
      have gk3 := gk1.ext fun l h => (h.ext e2).ext e3
      have go3 := GoD.of (kd := kd) ((e1.trans e2).trans e3)
      refine ⟨_, rfl, kd, kvs, rfl, Rd.of hk3, fun ql nql => ?_⟩
      have el := Ext.upd (o := .lst (kvs.map fun kv => kV kv.1)) nql
      have hk4 := el _ _ hk3
      have gk4 := gk3.ext fun l h => h.ext el
      have hq4 := hq2.ext el
      have go4 := go3.trans (GoD.of el)
      have hz4 := el _ _ (e3 _ _ (e2 _ _ (e1 _ _ hz)))
      have hql : (upd H3 ql (.lst (kvs.map fun kv => kV kv.1))) ql = some (.lst (kvs.map fun kv => kV kv.1)) := upd_same
      have qlk : ql ≠ kd := lst_dk hql hk4
      generalize upd H3 ql (.lst (kvs.map fun kv => kV kv.1)) = H4 at *
      refine ⟨ql, rfl, ⟨_, SqL.of hql⟩, ?_⟩
      refine for_it walk_list (fun j σ' J => ∃ (kvs' : List (Key × V)) (v5 : Option V), σ' = [some (.int p), some (.ref l), some (.ref kd), some (.ref q2), some (.int (i : Int)), v5] ∧ GoD kd H4 J ∧ J kd = some (.dK kvs') ∧ kvs'.length ≤ m ∧ KeptL p n J kvs' ∧ (∀ k, (valV kvs' k).isSome = (valV kvs k).isSome) ∧ ∀ kv ∈ kvs', kv.2 ≠ V.ref zz)
        ⟨kvs, _, rfl, fun _ _ _ h => h, hk4, lk, gk4, (fun _ => rfl), az⟩ (fun j σ' J _ ⟨_, _, _, g', _⟩ => SqL.of (g' _ _ qlk hql)) ?_ ?_
      · rintro j y σ' J J' hj ⟨kvs', v5, rfl, go5, hk5, lk5, gk5, same, az5⟩ ⟨rfl, hy⟩
        rw [List.getElem?_map] at hy
        cases hg : kvs[j]? with
        | none => rw [hg] at hy; cases hy
        | some kv =>
          rw [hg] at hy
          cases hy
          have some' : (valV kvs' kv.1).isSome = true := by
            rw [same, ← valV_any]
            exact List.any_eq_true.mpr ⟨kv, List.mem_of_getElem? hg, decide_eq_true rfl⟩
          obtain ⟨v, hv⟩ := Option.isSome_iff_exists.mp some'
          obtain ⟨a, o, ee, an, ho⟩ := gk5 _ (valV_mem hv)
          injection ee with ek ev
          subst ev
          have dg : DGet J' kd (kV kv.1) (some (.ref o)) := by
            have := DGet.k (k := kv.1) hk5
            rw [hv] at this
            exact this
          obtain ⟨ms, hms, g2⟩ := id ho
          obtain ⟨c, hc, _, c0, cp⟩ := row_at g2 iln
          obtain ⟨rs, hrs, g3⟩ := hq4.go hk4 go5
          refine ⟨_, rfl, _, rfl, kd, _, rfl, dg, _, rfl, o, _, (i : Int), .int c, rfl, rfl, SqL.of hms, hc, rfl, _, rfl, ?_⟩
          refine ite2 (fun _ => ?_) (fun _ => ⟨kvs', _, rfl, go5, hk5, lk5, gk5, same, az5⟩)
          refine ⟨_, rfl, _, rfl, _, rfl, kd, _, rfl, dg, _, rfl, _, rfl, kd, _, rfl, dg, _, rfl, o, _, (i : Int), .int c, rfl, rfl, SqL.of hms, hc, _, rfl, p, c, o, q2, ms, rs, rfl, hms, hrs, by rw [g2.1]; exact g2, by rw [g2.1]; exact g3, c0, cp, hp'.2, by rw [g2.1]; exact n1000, fun q3 J3 e3 nq3 r3 => ?_⟩
          have q3z : q3 ≠ zz := fun e => by rw [e, go5 _ _ zk hz4] at nq3; cases nq3
          rw [g2.1] at r3
          have hk6 := e3 _ _ hk5
          refine ⟨_, rfl, _, rfl, kd, _, rfl, DPut.k (k := kv.1) hk6 (small1000 (by omega)), ?_⟩
          have goJ : GoD kd J3 (upd J3 kd (.dK (putK kvs' kv.1 (.ref q3)))) := GoD.put
          refine ⟨putK kvs' kv.1 (.ref q3), _, rfl, (go5.trans (GoD.of e3)).trans goJ, upd_same, ?_, ?_, fun k' => ?_, fun r hr => ?_⟩
          · have : (putK kvs' kv.1 (V.ref q3)).length = kvs'.length := by
              unfold putK
              rw [valV_any, if_pos some', List.length_map]
            omega
          · intro r hr
            rcases mem_putK hr with z | z
            · obtain ⟨a', l', h1, h2, h3⟩ := gk5 r z
              exact ⟨a', l', h1, h2, (h3.ext e3).go hk6 goJ⟩
            · exact ⟨a, q3, by rw [z, ek], an, r3.go hk6 goJ⟩
          · rw [valV_put]
            by_cases z : k' = kv.1
            · rw [if_pos z, z, ← same, some']; rfl
            · rw [if_neg z, same]
          · rcases mem_putK hr with z | z
            · exact az5 r z
            · rw [z]
              exact fun e => q3z (by injection e)
      · rintro σ' J ⟨kvs', v5, rfl, go5, hk5, lk5, gk5, same, az5⟩
        refine ⟨_, rfl, _, rfl, _, rfl, kd, _, rfl, DPut.k (k := .inl (i : Int)) hk5 (small1000 (by omega)), ?_⟩
        have goJ : GoD kd J (upd J kd (.dK (putK kvs' (.inl (i : Int)) (.ref q2)))) := GoD.put
        refine ⟨_, rfl, k i _ iln ((go4.trans go5).trans goJ) ⟨putK kvs' (.inl (i : Int)) (.ref q2), upd_same, ?_, ?_, fun r hr => ?_⟩⟩
        · have := length_putK kvs' (.inl (i : Int)) (V.ref q2)
          omega
        · intro r hr
          rcases mem_putK hr with z | z
          · obtain ⟨a', l', h1, h2, h3⟩ := gk5 r z
            exact ⟨a', l', h1, h2, h3.go hk5 goJ⟩
          · exact ⟨i, q2, z, iln, (hq4.go hk4 go5).go hk5 goJ⟩
        · rcases mem_putK hr with z | z
          · exact az5 r z
          · rw [z]
            exact fun e => q2z (by injection e)
end
end V44

set_option Elab.async false
set_option linter.all false
set_option maxRecDepth 100000
set_option maxHeartbeats 4000000
set_option pp.maxSteps 100
/-! The place of a cell in a tuple of cells; the row of a cell's rim. -/
namespace V44
open PySem L2
abbrev sRim : Stmt := top 56
/-- a tuple of cells, locked or not -/
def TR (H : Hp) (b : Addr) (ll : List (List Int)) : Prop := ∃ as : List Addr, Rd H b (.tup (as.map V.ref)) ∧ PT2 H as ll
theorem rd_ext {H H' : Hp} {b : Addr} {u : HO} (e : Ext H H') (h : Rd H b u) : Rd H' b u := by
  rcases h with h | ⟨o, h⟩
  · exact .inl (e _ _ h)
  · exact .inr ⟨o, e _ _ h⟩
theorem TR.ext {H H' : Hp} {b : Addr} {ll : List (List Int)} (e : Ext H H') (h : TR H b ll) : TR H' b ll := let ⟨as, h1, h2⟩ := h; ⟨as, rd_ext e h1, PT2.mono (fun _ _ z => e _ _ z) h2⟩
theorem TR.dp {K : PySem.W.Frag} {H : Hp} {b : Addr} {ll : List (List Int)} (h : TR H b ll) : Dp K H (.ref b) (.tuple (ll.map tI)) := by
  obtain ⟨as, hb, pt⟩ := h
  exact .tup (.inl hb) (dp_lists pt)
theorem TT.tr {H : Hp} {b : Addr} {ll : List (List Int)} (h : TT H b ll) : TR H b ll := let ⟨as, h1, h2⟩ := h; ⟨as, .inl h1, h2⟩
/-- its object is known, and has no dict of its own -/
def Bare (H : Hp) (b : Addr) : Prop := ∃ (o : Obj) (u : HO), H b = some (.frz o u) ∧ o.dict = Option.none
theorem Bare.ext {H H' : Hp} {b : Addr} (e : Ext H H') (h : Bare H b) : Bare H' b := let ⟨o, u, h1, h2⟩ := h; ⟨o, u, e _ _ h1, h2⟩
/-- tuple(list), the new object known -/
theorem call_tuple_frz {X : Cx} : CallR X (.type "tuple") (fun xs H Q => ∃ p ys, xs = [.ref p] ∧ SqL X.K H p ys ∧ ∀ (l : Addr) (o : Obj), H l = Option.none → o.dict = Option.none → Q (.ref l) (upd H l (.frz o (.tup ys)))) := by
  intro pins s σ H xs us Q I r h
  obtain ⟨p, ys, rfl, hq, q⟩ := h
  obtain ⟨u, rfl, rx⟩ := Vals.one r
  cases rx
  obtain ⟨its, r', pl, hz⟩ := I.list hq
  have hlen := r'.length
  refine call_tuple_list pl.isList (fun h' kp => ?_) (by simp only [List.size_toArray] <;> omega)
  have I1 : Inv X pins σ H { s with heap := h' } := I.kept (t' := s.toks) kp
  have I2 : Inv X pins σ (upd H h'.objs.size (.frz { cls := .type "tuple", data := .seq its.toArray } (.tup ys))) { s with heap := h'.push { cls := .type "tuple", data := .seq its.toArray } } :=
    I1.laid (t' := s.toks) (fun b o e => Heap.get?_push_of_some _ e) (Nat.le_refl _) (show ObjOk X.prog X.w _ _ _ (.frz _ (.tup ys)) from ⟨Heap.get?_push_size _ rfl, hz, its, r', ⟨_, Heap.get?_push_size _ rfl, rfl, _, rfl⟩⟩)
  exact ⟨.ref h'.objs.size, _, I2, rfl, q _ _ (I1.hok.fresh (Nat.le_refl _)) rfl⟩
/-- t.index(cell), the first place -/
def rTupIdx : V → List V → Hp → VK → Prop := fun x xs H Q => ∃ (b c : Addr) (l : List Int) (ll : List (List Int)) (j : Nat), x = .ref b ∧ xs = [.ref c] ∧ TR H b ll ∧ H c = some (.tup (l.map V.int)) ∧ ll[j]? = some l ∧ (∀ m, m < j → ll[m]? ≠ some l) ∧ Q (.int (j : Nat)) H
theorem mt_tupIdx {X : Cx} (hu : X.A.units + 65 < cLine) : MtR X "tuple.index" rTupIdx := by
  intro pins s σ H x xs v us Q I rx rs h
  obtain ⟨b, c, l, ll, j, rfl, rfl, tt, hc, hj, hno, q⟩ := h
  cases rx
  cases rs with
  | cons ry rt =>
    rename_i uy ut
    cases rt
    obtain ⟨bs, r1⟩ := Dp.reads I (tI l) (.ref c) uy (dp_tI hc) ry
    have sd := shaped_tI l
    have sl : SeqAt.shaped (.tuple (ll.map tI)) = true := shaped_dT ll
    have hxs : PyData.canLayAll0 (ll.map tI) = true := by
      have := SeqAt.canLay_of_shaped sl
      rw [PyData.canLay0] at this
      exact this
    have hroom : X.A.units + 1 + min (PyData.depthAll (ll.map tI)) (tI l).depth < cLine := PyProof.Rows.room_in_shaped sd hu
    obtain ⟨as, hb, pt⟩ := tt
    obtain ⟨its, rv, ⟨⟨cls, dd, data, sls⟩, ho, hcl, n, hdt⟩, hlen⟩ := I.tuple (show SqT X.K H b _ from .inl hb)
    simp only at hcl hdt
    subst hcl hdt
    obtain ⟨as2, h4⟩ := Dp.readsAll I (ll.map tI) _ its (dp_lists pt) rv
    have hn : its.length = (ll.map tI).length := SeqAt.ReadsAll.length (ll.map tI) its as2 h4
    have hmap : its.map (SeqAt.readOf s.heap) = ll.map tI := SeqAt.readsAll_map (ll.map tI) its as2 hxs h4
    have lj := (List.getElem?_eq_some_iff.mp hj).1
    have hjl : j < its.length := by rw [hn, List.length_map]; exact lj
    have hj' : j < its.toArray.size := by simpa using hjl
    have at_ : ∀ (m : Nat) (hm : m < its.toArray.size) (k : List Int), ll[m]? = some k → SeqAt.readOf s.heap its.toArray[m] = tI k := by
      intro m hm k hk
      have hml : m < its.length := by simpa using hm
      have e1 : (its.map (SeqAt.readOf s.heap))[m]? = some (tI k) := by rw [hmap, List.getElem?_map, hk]; rfl
      rw [List.getElem?_map, List.getElem?_eq_getElem hml] at e1
      have e2 : SeqAt.readOf s.heap its[m] = tI k := Option.some.inj e1
      simpa using e2
    refine call_meets PySem.F.slot_tuple_index ⟨_, ho, rfl⟩ PySem.F.entry_tuple_index (PySem.F.args_tuple_index_2 _ _)
      (TI.tuple_indexAt b its.toArray n dd sls uy (fun u => PyData.eqv (SeqAt.readOf s.heap u) (tI l)) j hj' ?_ ?_) ⟨ho, SeqAt.items_eqAt (vs := its.toArray) (show ReadsAll s.heap its.toArray.toList (ll.map tI) as2 from h4) r1 hxs (SeqAt.canLay_of_shaped sd) hroom, ?_⟩
    · show PyData.eqv (SeqAt.readOf s.heap its.toArray[j]) (tI l) = true
      rw [at_ j hj' l hj, eqv_tI]
      exact decide_eq_true rfl
    · intro m hm hmj
      have hmd : m < ll.length := by omega
      show PyData.eqv (SeqAt.readOf s.heap its.toArray[m]) (tI l) = false
      rw [at_ m hm _ (List.getElem?_eq_getElem hmd), eqv_tI]
      exact decide_eq_false fun e => hno m hmj (by rw [List.getElem?_eq_getElem hmd, e])
    · exact ⟨.int (j : Nat), H, I.tok _, ⟨_, rfl⟩, q⟩
def tTupIdx (to : TE) (t : TA) : TE := fun σ H Q => to σ H fun x H1 => (∃ b ll, x = .ref b ∧ TR H1 b ll ∧ Bare H1 b) ∧ t σ H1 fun xs H2 => rTupIdx x xs H2 Q
theorem pe_tupIdx {X : Cx} {o e : Expr} {to : TE} {t : TA} {apos cpos : Pos} (hu : X.A.units + 65 < cLine) (ho : PE X o to) (ha : PA X [e] t)
    (hbase : attributeBase o "index" X.env (eval o X.env) = eval o X.env := by rfl)
    (hfew : ((backTo cpos (starEach [e] X.env)).all (fun x => !x.1) && (backToKw cpos (keywordEach [] X.env)).all (fun x => x.1.isSome)
      && decide (([e] : List Expr).length + ([] : List Keyword).length + (if ([] : List Keyword).isEmpty then 0 else 1) < 30)) = true := by rfl)
    (hline : (apos.endLine == cpos.line) = true := by rfl) (hs : starEach [e] X.env = (false, eval e X.env) :: starEach [] X.env := by rfl) (hplain : (backTo cpos (starEach [] X.env)).any (·.1) = false := by rfl) :
    PE X (.Call (.Attribute o "index" apos) [e] [] cpos) (tTupIdx to t) := by
  refine ⟨fun pins s σ H Q I h => ?_⟩
  refine wpAny_Call_method_late hbase hfew hline rfl (thn (ho.run pins s σ H _ I h) fun v s1 ⟨x, H1, I1, r1, ⟨b, ll, ex, tr, oo, u, hf, hd⟩, q1⟩ => ?_)
  subst ex
  cases r1
  have ty : s1.TypeIs (.ref b) "tuple" := by
    obtain ⟨as, hb, _⟩ := tr
    obtain ⟨its, _, ⟨o', ho', hc', _⟩, _⟩ := I1.tuple (show SqT X.K H1 b _ from .inl hb)
    exact ⟨o', ho', hc'⟩
  refine ⟨"tuple", "tuple.index", PySem.F.plainAttrs_tuple, PySem.F.slot_tuple_index, PySem.F.type_tuple_index, ty, fun a e => ?_, ?_⟩
  · cases e
    exact ⟨oo, (I1.hok b _ hf).1, hd⟩
  · have hA := ha.run cpos pins s1 σ H1 _ I1 q1
    rw [hs] at hA ⊢
    refine Calls.callWith_builtin (by show (false || (backTo cpos (starEach [] X.env)).any (·.1)) = false; rw [hplain] <;> rfl) (Calls.evalArgs_plain ?_)
    exact thn hA fun us s2 ⟨vs, H2, I2, r2, q2⟩ => mt_tupIdx hu pins s2 σ H2 (.ref b) vs (.ref b) us Q I2 rfl r2 q2
theorem first_at : ∀ {ll : List (List Int)} {l : List Int}, l ∈ ll → ∃ j : Nat, ll[j]? = some l ∧ ∀ m : Nat, m < j → ll[m]? ≠ some l
  | [], _, h => nomatch h
  | a :: r, l, h => by
    by_cases e : a = l
    · exact ⟨0, by rw [e]; rfl, fun m hm => absurd hm (Nat.not_lt_zero m)⟩
    · obtain ⟨j, h1, h2⟩ := first_at (ll := r) (l := l) (by
        rcases List.mem_cons.mp h with z | z
        · exact absurd z.symm e
        · exact z)
      refine ⟨j + 1, h1, fun m hm => ?_⟩
      cases m with
      | zero => exact fun z => e (Option.some.inj z)
      | succ m => exact h2 m (by omega)
def spRim : Sp := fun vs H Q _ => ∃ (b c : Addr) (l : List Int) (ll : List (List Int)) (p : Int), vs = [.ref b, .int p, .ref c] ∧ TR H b ll ∧ Bare H b ∧ H c = some (.tup (l.map V.int)) ∧ 1 ≤ l.length ∧ l.length ≤ 4 ∧ (∀ f ∈ facesL l, f ∈ ll) ∧ Pr p ∧ ll.length ≤ 1000 ∧ ∀ (q : Addr) (H' : Hp), Ext H H' → RowL p ll.length H' q → Q (.ref q) H'
theorem rowg_set {p : Int} {n : Nat} {ns : List Int} {j : Nat} {v : Int} (g : RowG p n ns) (v0 : 0 ≤ v) (vp : v < p) : RowG p n (ns.set j v) := ⟨by rw [List.length_set]; exact g.1, fun x hx => by
  rcases List.mem_or_eq_of_mem_set hx with z | z
  · exact g.2 x z
  · rw [z]; exact ⟨v0, vp⟩⟩
theorem none_of_ext {H H1 : Hp} {b : Addr} (e : Ext H H1) (h : H1 b = none) : H b = none := by
  cases q : H b with
  | none => rfl
  | some o => rw [e _ _ q] at h; cases h
theorem ref_get {as : List Addr} {j : Nat} {y : V} (h : (as.map V.ref)[j]? = some y) : ∃ b, as[j]? = some b ∧ y = .ref b := by
  rw [List.getElem?_map] at h
  cases e : as[j]? with
  | none => rw [e] at h; cases h
  | some b => rw [e] at h; cases h; exact ⟨b, rfl, rfl⟩
theorem ref_int {J : Hp} {fl row : Addr} {as : List Addr} {ns : List Int} {i : Nat} {a : Addr} (h : J fl = some (.lst (as.map V.ref))) (g : J row = some (.lst (ns.map V.int))) (ha : as[i]? = some a) : fl ≠ row := fun e => by
  rw [e, g] at h
  injection h with h
  injection h with h
  have : (ns.map V.int)[i]? = some (.ref a) := by rw [h, List.getElem?_map, ha]; rfl
  obtain ⟨n, _, z⟩ := map_int_get this
  cases z
section
variable {P : Program} {w : World} {K : PySem.W.Frag} {mg : Str → Option Value} {base : Heap}
abbrev rimN : List Str := ["cells", "prime", "cell", "row", "at", "face"]
theorem scRim : FnScope rimN ["cells", "prime", "cell"] (defScope sRim) := ⟨rfl, rfl, rfl, by decide +kernel, rfl, by decide +kernel, by decide +kernel⟩
theorem ok_rim {f : Addr} {fd : FuncData} (F : L2.Fun K "rim_row" "rim_row" sRim f fd) (T : Gb mg) (cF : Cal P w K mg base 1 "faces" spFaces []) : FnOk P w K mg base CX0 2 f fd ["cells", "prime", "cell"] spRim := by
  refine F.ok scRim (fun vs H Q E h => ?_) (fun cdv A outer s H vs Q E hr h => ?_)
  · obtain ⟨b, c, l, ll, p, rfl, _⟩ := h
    rfl
  · obtain ⟨b, c, l, ll, p, rfl, tt, bare, hc, l1, l4, fs, hp, ln, k⟩ := h
    have hp' := hp.le
    have hu65 : A.units + 3 + 65 < cLine := by
      have := hr.un
      show A.units + 3 + 65 < cLine
      have e : (A.deeper (PyProof.Rows.envOfC "rim_row" (defScope sRim) s.heap.objs.size f cdv)).units = A.units + 3 := rfl
      omega
    refine ⟨_, pss_cons (ps_set (i := 3) scRim.nd rfl (Or.inl rfl) (pe_op op_rep (pe_lst (pa_cons pe_int pa_nil)) (pe_callB call_len_seq (by rfl) T.len PySem.boot_len (pa_cons (pv 0) pa_nil))))
      (pss_cons (ps_for PassesOwn.never rfl (pi_enum (by rfl) T.enum (pa_cons (C8.pe_c cF hr (by decide) (by rfl) (pa_cons (pv 2) pa_nil)) pa_nil)) (pg_tup rfl (pgs_cons (pg_name (i := 4) scRim.nd rfl (Or.inl rfl)) (pgs_cons (pg_name (i := 5) scRim.nd rfl (Or.inl rfl)) pgs_nil)))
      (pss_one (ps_asg (pe_ifExp (pt_cmpR op_eq (pe_op op_mod (pv 4) pe_int) pe_int (nomark _)) pe_int (pe_op op_sub (pv 1) pe_int)) (pg_sub (pv 3) (pe_op op_sub (pe_op op_sub (pe_callB call_len_seq (by rfl) T.len PySem.boot_len (pa_cons (pv 0) pa_nil)) pe_int) (pe_tupIdx hu65 (pv 0) (pa_cons (pv 5) pa_nil))) set_list))))
      (pss_one (ps_ret (pv 3)))), ?_⟩
    obtain ⟨as, hb, pt⟩ := id tt
    have la : as.length = ll.length := Paired.length pt
    refine ⟨by show 1 ≤ sizeLine; decide, fun p1 n1 => ?_⟩
    have x1 := Ext.upd (o := .lst [V.int 0]) n1
    refine ⟨_, rfl, b, _, rfl, .inr (.inl (rd_ext x1 hb)), p1, _, [V.int 0], rfl, rfl, upd_same, by omega, by rw [List.length_map]; omega, by rw [List.length_map]; show 1 * _ ≤ sizeLine; rw [sizeLine_eq]; omega, fun row nrow => ?_⟩
    rw [List.flatten_replicate_singleton]
    have e0 : List.replicate (((as.map V.ref).length : Nat) : Int).toNat (V.int 0) = (List.replicate ll.length (0 : Int)).map V.int := by
      rw [List.map_replicate, List.length_map, la]
      rfl
    rw [e0]
    have x2 := Ext.upd (o := .lst ((List.replicate ll.length (0 : Int)).map V.int)) nrow
    have x12 := x1.trans x2
    have hr0 : RowL p ll.length (upd (upd H p1 (.lst [V.int 0])) row (.lst ((List.replicate ll.length (0 : Int)).map V.int))) row := ⟨_, upd_same, by rw [List.length_replicate], fun x hx => by
      rw [List.eq_of_mem_replicate hx]
      exact ⟨by decide, by omega⟩⟩
    have nrowH : H row = none := none_of_ext x1 nrow
    generalize upd (upd H p1 (.lst [V.int 0])) row (.lst ((List.replicate ll.length (0 : Int)).map V.int)) = H1 at *
    refine ⟨_, rfl, c, l, rfl, x12 _ _ hc, l1, l4, fun fl fas H2 e2 hfl fpt => ?_⟩
    have hr2 := hr0.ext e2
    have x3 := x12.trans e2
    refine ⟨fl, _, rfl, SqL.of hfl, ?_⟩
    refine for_it walk_enum (fun i σ' J => ∃ v4 v5 : Option V, σ' = [some (.ref b), some (.int p), some (.ref c), some (.ref row), v4, v5] ∧ GoD row H2 J ∧ RowL p ll.length J row ∧ J fl = some (.lst (fas.map V.ref))) ⟨_, _, rfl, fun _ _ _ h => h, hr2, hfl⟩ (fun i σ' J _ ⟨_, _, _, _, _, g⟩ => SqL.of g) ?_ ?_
    · rintro i z σ' J J' hi ⟨v4, v5, rfl, g, hrow, hfl'⟩ ⟨t, x, y, rfl, nt, rfl, hx, hy⟩
      cases hx
      obtain ⟨a, ha, rfl⟩ := ref_get hy
      obtain ⟨f1, hf1, haf⟩ := fpt.get ha
      obtain ⟨ns, hns, gn⟩ := hrow
      have nfl := ref_int hfl' hns ha
      have et := Ext.upd (o := .tup [V.int (i : Int), .ref a]) nt
      have brow : b ≠ row := fun z => by
        rcases (rd_ext x3 hb) with q | ⟨o, q⟩ <;> (rw [z] at q; obtain ⟨ms, h1, _⟩ := hr2; rw [h1] at q; cases q)
      have keep : ∀ {q : Addr} {xs : List V}, H2 q = some (.tup xs) → J q = some (.tup xs) := fun {q xs} h => g _ _ (fun z => by rw [z] at h; obtain ⟨ms, h1, _⟩ := hr2; rw [h1] at h; cases h) h
      have ttJ : TR (upd J t (.tup [V.int (i : Int), .ref a])) b ll := ⟨as, by
        rcases (rd_ext x3 hb) with q | ⟨o, q⟩
        · exact .inl (et _ _ (g _ _ brow q))
        · exact .inr ⟨o, et _ _ (g _ _ brow q)⟩, Paired.imp' (fun _ _ h => et _ _ (keep (x3 _ _ h))) pt⟩
      have bareJ : Bare (upd J t (.tup [V.int (i : Int), .ref a])) b := let ⟨o, u, h1, h2⟩ := bare.ext x3; ⟨o, u, et _ _ (g _ _ brow h1), h2⟩
      have haJ := et _ _ (keep haf)
      have hnsJ := et _ _ hns
      have hflJ := et _ _ hfl'
      have gJ := g.trans (GoD.of et)
      obtain ⟨j, hj, hno⟩ := first_at (fs f1 (List.mem_of_getElem? hf1))
      have jl := (List.getElem?_eq_some_iff.mp hj).1
      refine ⟨t, _, rfl, SqT.of upd_same, rfl, _, _, rfl, _, _, rfl, rfl, ?_⟩
      generalize upd J t (.tup [V.int (i : Int), .ref a]) = J2 at *
      obtain ⟨as', hb', pt'⟩ := id ttJ
      have la' : (as'.map V.ref).length = ll.length := by
        rw [List.length_map]
        exact Paired.length pt'
      have ix : ixN (ns.map V.int).length ((((as'.map V.ref).length : Nat) : Int) - 1 - ((j : Nat) : Int)) = some (ll.length - 1 - j) := by
        have e : (((as'.map V.ref).length : Nat) : Int) - 1 - ((j : Nat) : Int) = ((ll.length - 1 - j : Nat) : Int) := by rw [la']; omega
        rw [e]
        have q : ll.length - 1 - j < (ns.map V.int).length := by rw [List.length_map, gn.1]; omega
        unfold ixN
        rw [if_pos (by omega), if_pos (by omega)]
        rfl
      have fin : ∀ v : Int, 0 ≤ v → v < p → ∃ v4 v5 : Option V, [some (V.ref b), some (.int p), some (.ref c), some (.ref row), some (.int (i : Int)), some (.ref a)] = [some (.ref b), some (.int p), some (.ref c), some (.ref row), v4, v5] ∧ GoD row H2 (upd J2 row (.lst ((ns.map V.int).set (ll.length - 1 - j) (.int v)))) ∧ RowL p ll.length (upd J2 row (.lst ((ns.map V.int).set (ll.length - 1 - j) (.int v)))) row ∧ (upd J2 row (.lst ((ns.map V.int).set (ll.length - 1 - j) (.int v)))) fl = some (.lst (fas.map V.ref)) := fun v v0 vp =>
        ⟨_, _, rfl, gJ.trans GoD.put, ⟨ns.set (ll.length - 1 - j) v, by rw [upd_same, List.map_set], rowg_set gn v0 vp⟩, by rw [upd_ne nfl]; exact hflJ⟩
      refine ⟨_, rfl, _, _, rfl, rfl, by show (0 : Int) < 2; decide, rfl, _, rfl, ?_⟩
      refine ite2 (fun _ => ?_) (fun _ => ?_)
      · refine ⟨_, rfl, _, rfl, b, _, rfl, .inr (.inl hb'), _, _, rfl, rfl, _, rfl, ⟨b, ll, rfl, ttJ, bareJ⟩, _, rfl, b, a, f1, ll, j, rfl, rfl, ttJ, haJ, hj, hno, _, _, rfl, rfl, row, _, _, _, rfl, rfl, hnsJ, ix, ?_⟩
        exact fin 1 (by decide) (by omega)
      · refine ⟨_, rfl, _, _, rfl, rfl, _, rfl, _, rfl, b, _, rfl, .inr (.inl hb'), _, _, rfl, rfl, _, rfl, ⟨b, ll, rfl, ttJ, bareJ⟩, _, rfl, b, a, f1, ll, j, rfl, rfl, ttJ, haJ, hj, hno, _, _, rfl, rfl, row, _, _, _, rfl, rfl, hnsJ, ix, ?_⟩
        exact fin (p - 1) (by omega) (by omega)
    · rintro σ' J ⟨v4, v5, rfl, g, hrow, _⟩
      exact ⟨_, rfl, k row J (fun q o h => g _ _ (fun z => by rw [z, nrowH] at h; cases h) (x3 _ _ h)) hrow⟩
end
end V44

set_option Elab.async false
set_option linter.all false
set_option maxRecDepth 100000
set_option maxHeartbeats 4000000
set_option pp.maxSteps 100
/-! Right towers made. -/
namespace V44
open PySem L2
/-- a tower over cells that may be locked -/
def spTowG (CT : Addr) : Sp := fun vs H Q _ => ∃ (p dx b : Addr) (ll : List (List Int)), vs = [.ref p, .ref b] ∧ H p = some (.ins CT dx []) ∧ TR H b ll ∧ ll.length ≤ 40 ∧ GoodT ll ∧
  ∀ H' : Hp, H' p = some (.ins CT dx (cf (.ref b))) → (∀ c o, c ≠ p → H c = some o → H' c = some o) → Q .non H'
theorem good_prefix {ll : List (List Int)} (g : GoodT ll) {i : Nat} {l : List Int} (h : ll[i]? = some l) : Ok (ll.take i) l := by
  have lt := (List.getElem?_eq_some_iff.mp h).1
  have e : ll = ll.take i ++ (l :: ll.drop (i + 1)) := by
    have e1 : ll.drop i = l :: ll.drop (i + 1) := by
      rw [List.drop_eq_getElem_cons lt]
      congr 1
      exact (List.getElem?_eq_some_iff.mp h).2
    rw [← e1, List.take_append_drop]
  have g' : Gd [] (ll.take i ++ (l :: ll.drop (i + 1))) := e ▸ g
  have := (gd_app.mp g').2
  rw [List.nil_append] at this
  exact this.1
theorem cut_to {xs : List V} {i : Nat} (h : i ≤ xs.length) : cutV xs none (some (i : Int)) = xs.take i := by
  unfold cutV
  rw [HT.sIx_none, HT.sIx_nat, List.drop_zero, Nat.sub_zero, Nat.min_eq_left h]
theorem sl_rd {K : PySem.W.Frag} {H : Hp} {Q : VK} {a : Addr} {xs : List V} {lo hi : Option Int} (ha : Rd H a (.tup xs)) (k : ∀ (p : Addr) (H' : Hp), Ext H H' → Rd H' p (.tup (cutV xs lo hi)) → Q (.ref p) H') : rSlA K (.ref a) lo hi H Q := by
  refine ⟨a, xs, rfl, .inl ha, fun z => k a H Ext.rfl' ?_, fun _ p np => k p _ (Ext.upd np) (.inl upd_same)⟩
  unfold cutV
  rw [z.1, z.2, List.drop_zero, Nat.sub_zero, List.take_of_length_le (Nat.le_refl _)]
  exact ha
theorem in_TR {K : PySem.W.Frag} {H : Hp} {c q : Addr} {l : List Int} {ll : List (List Int)} {Q : VK} (h : H c = some (.tup (l.map V.int))) (tt : TR H q ll) (k : Q (.bl (decide (l ∈ ll))) H) : rInT K (.ref c) (.ref q) H Q :=
  ⟨tI l, ll.map tI, dp_tI h, tt.dp, shaped_tI l, shaped_dT ll, by rw [any_tI]; exact k⟩
theorem th_ints {K : PySem.W.Frag} {H : Hp} {n : Nat} {c : Addr} {l : List Int} (h : H c = some (.tup (l.map V.int))) : Th K H n (.ref c) := by
  cases n with
  | zero => exact Th.tup0 h
  | succ n =>
    refine Th.tup h fun y hy => ?_
    obtain ⟨i, _, rfl⟩ := List.mem_map.mp hy
    exact Th.int i
theorem TR.take {H : Hp} {q : Addr} {as : List Addr} {ll : List (List Int)} {i : Nat} (h : Rd H q (.tup ((as.map V.ref).take i))) (pt : PT2 H as ll) : TR H q (ll.take i) := ⟨as.take i, by rw [List.map_take]; exact h, p_take i pt⟩
theorem all_true {n : Nat} : ((List.range n).map fun _ => true).all id = true := List.all_eq_true.mpr fun b hb => by
  obtain ⟨_, _, rfl⟩ := List.mem_map.mp hb
  rfl
section
variable {P : Program} {w : World} {K : PySem.W.Frag} {mg : Str → Option Value} {base : Heap}
theorem ok_towG {f CT : Addr} {fd : FuncData} (F : L2.Fun K "__init__" "Tower.__init__" sTowI f fd) (T : Gb mg) (M : TowC mg) (W : TowK K mg CT)
    (cC : Cal P w K mg base 4 "is_cell" (spCell K) []) (cF : Cal P w K mg base 1 "faces" spFaces []) : FnOk P w K mg base CX0 5 f fd ["self", "cells"] (spTowG CT) := by
  obtain ⟨t40, h40⟩ := M.mc
  refine F.ok scTowI (fun vs H Q E h => ?_) (fun cdv A outer s H vs Q E hr h => ?_)
  · obtain ⟨p, dx, b, ll, rfl, _⟩ := h
    rfl
  · obtain ⟨p, dx, b, ll, rfl, hp, ⟨as, hb, pt⟩, l40, gd, kQ⟩ := h
    have la : as.length = ll.length := Paired.length pt
    have kt := kit_ty (K := K) (show kitB "tuple" "tuple" = some true by decide +kernel)
    have ty : TyX K H (.ref b) (.type "tuple") := by
      rcases hb with h | ⟨o, h⟩
      · exact .base (.tup h)
      · exact .fTuple h
    refine ⟨_, pss_cons (ps_if (PW.pt (pw_or (pt_not (pt_val (pe_callB call_isi (by rfl) T.isi (by decide +kernel) (pa_cons (pv 1) (pa_cons (pe_bltn (v := .ty "tuple") (by rfl) T.tup (by decide +kernel) rfl) pa_nil))))) (pw_or1 (pt_cmpR op_gt (pe_callB call_len_seq (by rfl) T.len PySem.boot_len (pa_cons (pv 1) pa_nil)) (pe_glob (v := .int 40) rfl h40 ⟨_, rfl⟩) (nomark _))))) (pss_one ps_never) pss_nil)
      (pss_cons (ps_for PassesOwn.never rfl (pi_en (by rfl) T.enum (pa_cons (pv 1) pa_nil)) (pg_tup rfl (pgs_cons (pg_name (i := 2) scTowI.nd rfl (Or.inr rfl)) (pgs_cons (pg_name (i := 3) scTowI.nd rfl (Or.inl rfl)) pgs_nil)))
      (pss_cons (ps_if (PW.pt (pw_or (pt_not (pt_val (C8.pe_c cC hr (by decide) (by rfl) (pa_cons (pv 3) pa_nil)))) (pw_or1 (pt_cmpR (op_inT (u65 hr)) (pv 3) (pe_slice sl_tupA (pv 1) po_none (po_some (pv 2))) (by rfl))))) (pss_one ps_never) pss_nil)
      (pss_one (ps_if (pt_not (pt_val (pe_callB (cr_all rfl) (by rfl) T.all (by decide +kernel) (pa_cons (pe_lc (own := [("face", 4)]) (g := gName 4) (tt := tYes) rfl scTowI.nd (pi_list (C8.pe_c cF hr (by decide) (by rfl) (pa_cons (pv 3) pa_nil))) (blkOk_by (N := towN) (sc := defScope sTowI) (by decide +kernel)) (fun _ _ _ _ _ => (pg_name (i := 4) scTowI.nd rfl (Or.inl rfl))) (fun _ _ _ _ _ => pts_nil) (fun _ _ _ _ _ => (pe_cmpR (r := rInT K) (op_inT (u65 hr)) (pv 4) (pe_slice (r := rSlA K) sl_tupA (pv 1) po_none (po_some (pv 2))) (by rfl)))) pa_nil)))) (pss_one ps_never) pss_nil))))
      (pss_one (ps_fld (pv 0) (pv 1) rfl))), ?_⟩
    refine ⟨_, rfl, .ref b, .ty "tuple", _, .type "tuple", _, rfl, .ty _, ty, kt, _, rfl, ?_⟩
    refine iteF ⟨_, rfl, b, _, rfl, .inr (.inl hb), _, _, rfl, rfl, _, rfl, ?_⟩
    refine ite2 (fun z => ?_) (fun _ => ?_)
    · have := of_decide_eq_true z
      rw [List.length_map] at this
      omega
    refine ⟨_, rfl, b, _, rfl, hb, for_en (a := b) (xs := as.map V.ref) (fun i σ' J => (∃ u v, σ' = [some (.ref p), some (.ref b), u, v, Option.none]) ∧ Ext H J) ⟨⟨_, _, rfl⟩, Ext.rfl'⟩ (fun i σ' J h => rd_ext h.2 hb) ?_ ?_⟩
    · rintro i z σ' J q hz ⟨⟨u, v, rfl⟩, e2⟩ nq
      obtain ⟨c, hc, rfl⟩ := ref_get hz
      obtain ⟨l, hl, hcl⟩ := pt.get hc
      have e3 : Ext H (upd J q (.tup [.int (i : Nat), .ref c])) := e2.trans (Ext.upd nq)
      have okl := good_prefix gd hl
      have hi := (List.getElem?_eq_some_iff.mp hz).1
      refine ⟨q, _, rfl, SqT.of upd_same, rfl, _, _, rfl, _, _, rfl, rfl, ?_⟩
      generalize upd J q (.tup [.int (i : Nat), .ref c]) = J1 at *
      have hcl1 := e3 _ _ hcl
      refine ⟨_, rfl, .ref c, rfl, th_ints hcl1, (fun c' xs e h => by cases e; rw [hcl1] at h; cases h; rw [List.length_map]; exact Nat.le_trans okl.1.2.1 (by decide)), fun bb J2 hbb e4 => ⟨_, rfl, ?_⟩⟩
      have bt : bb = true := hbb.mpr ⟨c, l, rfl, hcl1, okl.1⟩
      subst bt
      refine iteF ⟨_, rfl, _, rfl, _, rfl, (i : Int), rfl, ?_⟩
      have e34 := e3.trans e4
      refine sl_rd (K := K) (lo := Option.none) (hi := some (i : Int)) (rd_ext e34 hb) fun q1 J3 e5 hq1 => ?_
      rw [cut_to (Nat.le_of_lt hi)] at hq1
      have e35 := e34.trans e5
      have pt3 : PT2 J3 as ll := PT2.mono (fun _ _ z => e35 _ _ z) pt
      refine in_TR (e35 _ _ hcl) (TR.take hq1 pt3) ⟨_, rfl, ?_⟩
      refine ite2 (fun y => absurd (of_decide_eq_true y) okl.2.1) (fun _ => ?_)
      refine ⟨_, rfl, c, l, rfl, e35 _ _ hcl, okl.1.1, okl.1.2.1, fun fl fs J4 e6 hf pf => ⟨fl, rfl, ⟨_, SqL.of hf⟩, fun D nD => ?_⟩⟩
      have lf : (fs.map V.ref).length ≤ 1000 := by
        rw [List.length_map, show fs.length = _ from Paired.length pf]
        unfold facesL
        split
        · decide
        · rw [List.length_map, List.length_range]; exact Nat.le_trans okl.1.2.1 (by decide)
      refine lc_gen (n := (fs.map V.ref).length) (p := fun _ => true) walk_list nD lf (fun _ y _ => y = V.bl true) (fun _ _ _ _ _ z => z) (fun H' e => SqL.of (e _ _ hf)) ?_ ?_
      · rintro j u J5 J5' R N hj e7 ⟨rfl, hu⟩ hR hN
        obtain ⟨g, hg, rfl⟩ := ref_get hu
        obtain ⟨f1, hf1, hgf⟩ := pf.get hg
        have e47 := (e35.trans e6).trans e7
        refine ⟨rfl, tyes_in ⟨_, rfl, _, rfl, _, rfl, (i : Int), rfl, ?_⟩⟩
        refine sl_rd (K := K) (lo := Option.none) (hi := some (i : Int)) (rd_ext e47 hb) fun q2 J6 e8 hq2 => ?_
        rw [cut_to (Nat.le_of_lt hi)] at hq2
        refine in_TR (e8 _ _ (e7 _ _ hgf)) (TR.take hq2 (PT2.mono (fun _ _ z => (e47.trans e8) _ _ z) pt)) ?_
        rw [decide_eq_true (okl.2.2 f1 (List.mem_of_getElem? hf1))]
        exact hR rfl _ _ e8 rfl
      intro ys J5 e7 hD pp
      have ey := flags_of (t := fun _ => true) pp
      subst ey
      refine ⟨D, _, rfl, SqL.of hD, true, congrArg V.bl all_true, ?_⟩
      exact iteF ⟨⟨_, _, rfl⟩, (e35.trans e6).trans e7⟩
    · rintro σ' J ⟨⟨u, v, rfl⟩, e2⟩
      refine ⟨_, rfl, _, rfl, p, CT, dx, [], rfl, e2 _ _ hp, W.cl, W.nC, (by show 0 < 1000; decide), ?_⟩
      refine kQ _ ?_ (fun c o nc eo => ?_)
      · rw [upd_same]
        rfl
      · rw [upd_ne nc]
        exact e2 _ _ eo
end
end V44

set_option Elab.async false
set_option linter.all false
set_option maxRecDepth 100000
set_option maxHeartbeats 4000000
set_option pp.maxSteps 100
/-! Primes judged; the bars of a tower. -/
namespace V44
open PySem L2
abbrev sPrime : Stmt := top 4
abbrev sBars : Stmt := top 57
def primeV : V → Bool
  | .int i => decide (i ∈ [2, 3, 5, 7, 11, 13])
  | _ => false
theorem primeV_true {x : V} : primeV x = true ↔ ∃ p, x = .int p ∧ Pr p := by
  cases x <;> simp [primeV, Pr]
theorem primeV_int {x : V} (h : isI x = false) : primeV x = false := by
  cases x <;> first | rfl | cases h
theorem in_primes (i : Int) : inV (.int i) [.int 2, .int 3, .int 5, .int 7, .int 11, .int 13] = decide (i ∈ [2, 3, 5, 7, 11, 13]) := by
  unfold inV
  by_cases h : i ∈ [2, 3, 5, 7, 11, 13]
  · rw [decide_eq_true h]
    simp only [List.mem_cons, List.not_mem_nil, or_false] at h
    rcases h with rfl | rfl | rfl | rfl | rfl | rfl <;> rfl
  · rw [decide_eq_false h]
    simp only [List.mem_cons, List.not_mem_nil, or_false, not_or] at h
    obtain ⟨h1, h2, h3, h4, h5, h6⟩ := h
    have e : ∀ n : Int, i ≠ n → eqV (.int n) (.int i) = false := fun n hn => beq_eq_false_iff_ne.mpr fun z => hn z.symm
    simp only [List.any_cons, List.any_nil, e _ h1, e _ h2, e _ h3, e _ h4, e _ h5, e _ h6, Bool.or_false]
def spPrime (K : PySem.W.Frag) : Sp := fun vs H Q _ => ∃ x : V, vs = [x] ∧ Th K H 0 x ∧ Q (.bl (primeV x)) H
structure PrimC (K : PySem.W.Frag) (mg : Str → Option Value) : Prop where
  pr : ∃ aP, mg "PRIMES" = some (.ref aP) ∧ ∀ H, SqT K H aP [.int 2, .int 3, .int 5, .int 7, .int 11, .int 13]
/-- all but these stays -/
def GoS (ks : List Addr) (H H' : Hp) : Prop := ∀ b o, b ∉ ks → H b = some o → H' b = some o
theorem GoS.of {ks : List Addr} {H H' : Hp} (e : Ext H H') : GoS ks H H' := fun b o _ h => e b o h
theorem GoS.trans {ks : List Addr} {H H1 H2 : Hp} (x : GoS ks H H1) (y : GoS ks H1 H2) : GoS ks H H2 := fun b o n h => y b o n (x b o n h)
theorem GoS.put {ks : List Addr} {k : Addr} {H : Hp} {o : HO} (h : k ∈ ks) : GoS ks H (upd H k o) := fun b u n hb => by rw [upd_ne fun z => n (by rw [z]; exact h)]; exact hb
theorem GoS.ofD {ks : List Addr} {k : Addr} {H H' : Hp} (h : k ∈ ks) (g : GoD k H H') : GoS ks H H' := fun b u n hb => g b u (fun z => n (by rw [z]; exact h)) hb
/-- a dict from ints to ints -/
def IntD (H : Hp) (g : Addr) (m : Nat) : Prop := ∃ kvs : List (Key × V), H g = some (.dK kvs) ∧ kvs.length ≤ m ∧ ∀ kv ∈ kvs, ∃ j : Int, kv.2 = .int j
/-- pairs of an int and an int or None -/
def BarV (H : Hp) (x : V) : Prop := ∃ (q : Addr) (i : Int) (v : V), x = .ref q ∧ H q = some (.tup [.int i, v]) ∧ (v = .non ∨ ∃ j : Int, v = .int j)
theorem BarV.mono {H H' : Hp} {x : V} (e : TExt H H') (h : BarV H x) : BarV H' x := let ⟨q, i, v, h1, h2, h3⟩ := h; ⟨q, i, v, h1, e _ _ h2, h3⟩
def spBars (K : PySem.W.Frag) (CT NP NN : Addr) : Sp := fun vs H Q E => ∃ (p b : Addr) (ll : List (List Int)) (x y : V), vs = [.ref p, x, y] ∧ TowAt CT H p b ∧ TR H b ll ∧ Bare H b ∧ GoodT ll ∧ ll.length ≤ 40 ∧ Th K H 0 x ∧ Th K H 0 y ∧
  (∀ H', primeV x = false → Ext H H' → E (.ref NP) Option.none H') ∧ (∀ H', primeV x = true → numV 3 y = false → Ext H H' → E (.ref NN) Option.none H') ∧
  ∀ (t : Addr) (xs : List V) (H' : Hp), primeV x = true → numV 3 y = true → Ext H H' → H' t = some (.tup xs) → xs.length ≤ 40 → (∀ z ∈ xs, BarV H' z) → Q (.ref t) H'
section
variable {P : Program} {w : World} {K : PySem.W.Frag} {mg : Str → Option Value} {base : Heap}
theorem scPrime : FnScope ["thing"] ["thing"] (defScope sPrime) := ⟨rfl, rfl, rfl, by decide +kernel, rfl, by decide +kernel, by decide +kernel⟩
theorem ok_prime {f : Addr} {fd : FuncData} (F : L2.Fun K "is_prime" "is_prime" sPrime f fd) (D : PrimC K mg) (cI : Cal P w K mg base 1 "is_integer" (spInteger K) []) : FnOk P w K mg base CX0 2 f fd ["thing"] (spPrime K) := by
  obtain ⟨aP, hP, sq⟩ := D.pr
  refine F.ok scPrime (fun vs H Q E h => ?_) (fun cdv A outer s H vs Q E hr h => ?_)
  · obtain ⟨x, rfl, _⟩ := h
    rfl
  · obtain ⟨x, rfl, th, k⟩ := h
    refine ⟨_, pss_one (ps_ret (pe_and (C8.pe_c cI hr (by decide) (by rfl) (pa_cons (pv 0) pa_nil)) (pe_one (pe_cmpR op_in_seq (pv 0) (pe_glob (v := .ref aP) rfl hP rfl) (by rfl))))), ?_⟩
    refine ⟨_, rfl, _, rfl, th, _, rfl, ?_⟩
    cases hx : isI x with
    | false =>
      rw [primeV_int hx] at k
      exact iteF k
    | true =>
      cases x with
      | int i => exact iteT ⟨_, rfl, aP, _, rfl, .inr (sq H), rfl, rfl, by rw [in_primes]; exact k⟩
      | _ => cases hx
abbrev barsN : List Str := ["tower", "prime", "deep", "born", "gone", "kept", "at", "cell", "place"]
theorem scBars : FnScope barsN ["tower", "prime", "deep"] (defScope sBars) := ⟨rfl, rfl, rfl, by decide +kernel, rfl, by decide +kernel, by decide +kernel⟩
theorem ok_bars {f fI CT NP NN : Addr} {fd fdI : FuncData} (F : L2.Fun K "tower_bars" "tower_bars" sBars f fd) (T : Gb mg) (W : TowK K mg CT) (M3 : ∃ t, mg "MOST_DEEP" = some (.int 3 t)) (N1 : ErrC K mg "NoPrime" NP fI) (N2 : ErrC K mg "NoNumber" NN fI) (FI : FnOk P w K mg base CX0 1 fI fdI ["self"] spF0) (bI : Binds K fdI ["self"] [])
    (cP : Cal P w K mg base 2 "is_prime" (spPrime K) []) (cN : Cal P w K mg base 2 "is_number" (spNumber K) []) (cK : Cal P w K mg base 3 "keep" spKeep []) (cR : Cal P w K mg base 2 "rim_row" spRim []) : FnOk P w K mg base (L2.CX P w) 4 f fd ["tower", "prime", "deep"] (spBars K CT NP NN) := by
  obtain ⟨t3, h3⟩ := M3
  refine F.okX scBars (fun vs H Q E h => ?_) (fun cdv A outer s H vs Q E hr h => ?_)
  · obtain ⟨p, b, ll, x, y, rfl, _⟩ := h
    rfl
  · obtain ⟨p, b, ll, x, y, rfl, ⟨dx, hp⟩, ⟨as, hb, pt⟩, bare, gd, l40, tx, ty, kP, kN, k⟩ := h
    have hr2 : Room 2 _ := hr.mono (by decide)
    have hu1 := hu_of hr
    have la : as.length = ll.length := Paired.length pt
    refine ⟨_, pss_cons (ps_if (pt_not (pt_val (C8.pe_c cP hr (by decide) (by rfl) (pa_cons (pv 1) pa_nil)))) (pss_one (ps_raise_v H K (takes_of rfl rfl rfl rfl) rfl rfl (pe_exv0 N1.ex N1.iC N1.tI FI hr2 bI pass0 (by rfl) N1.gC))) pss_nil)
      (pss_cons (ps_if (pt_not (pt_val (C8.pe_c cN hr (by decide) (by rfl) (pa_cons (pe_glob (v := .int 3) rfl h3 ⟨_, rfl⟩) (pa_cons (pv 2) pa_nil))))) (pss_one (ps_raise_v H K (takes_of rfl rfl rfl rfl) rfl rfl (pe_exv0 N2.ex N2.iC N2.tI FI hr2 bI pass0 (by rfl) N2.gC))) pss_nil)
      (pss_cons (ps_set (i := 3) scBars.nd rfl (Or.inl rfl) (pe_lst pa_nil))
      (pss_cons (ps_set (i := 4) scBars.nd rfl (Or.inr rfl) pe_dnewK)
      (pss_cons (ps_set (i := 5) scBars.nd rfl (Or.inl rfl) pe_dnewK)
      (pss_cons (ps_for (passes_of rfl) rfl (pi_en (by rfl) T.enum (pa_cons (pe_fld (pv 0) rfl) pa_nil)) (pg_tup rfl (pgs_cons (pg_name (i := 6) scBars.nd rfl (Or.inl rfl)) (pgs_cons (pg_name (i := 7) scBars.nd rfl (Or.inl rfl)) pgs_nil)))
      (pss_cons (ps_set (i := 8) scBars.nd rfl (Or.inl rfl) (C8.pe_c cK hr (by decide) (by rfl) (pa_cons (pv 1) (pa_cons (C8.pe_c cR hr (by decide) (by rfl) (pa_cons (pe_fld (pv 0) rfl) (pa_cons (pv 1) (pa_cons (pv 7) pa_nil)))) (pa_cons (pv 5) pa_nil)))))
      (pss_one (ps_if (pt_cmpR op_notN (pv 8) pe_non (nomark _)) (pss_one (ps_dput hu1 (pv 4) (pe_op op_sub (pe_op op_sub (pe_callB call_len_seq (by rfl) T.len PySem.boot_len (pa_cons (pe_fld (pv 0) rfl) pa_nil)) pe_int) (pv 8)) (pv 6) rfl)) (pss_one (ps_if (pt_cmpR op_eq (pe_callB call_len_seq (by rfl) T.len PySem.boot_len (pa_cons (pv 7) pa_nil)) (pe_op op_add (pv 2) pe_int) (nomark _)) (pss_one (ps_expr (pe_bm PySem.F.plainAttrs_list PySem.F.slot_list_append PySem.F.type_list_append mt_append (pv 3) (pa_cons (pv 6) pa_nil)))) pss_nil))))))
      (pss_one (ps_ret (pe_callTy call_tuple_of (by rfl) T.tup (by decide +kernel) (pa_cons (pe_lc (own := [("at", 6)]) (g := gName 6) (tt := tYes) rfl scBars.nd (pi_list (pv 3)) (blkOk_by (N := barsN) (sc := defScope sBars) (by decide +kernel)) (fun _ _ _ _ _ => (pg_name (i := 6) scBars.nd rfl (Or.inl rfl))) (fun _ _ _ _ _ => pts_nil) (fun _ _ _ _ _ => (pe_tup (pa_cons (pv 6) (pa_cons (pe_dget1 hu1 (pv 4) (pv 6) ⟨rfl, rfl, rfl, rfl⟩) pa_nil))))) pa_nil))))))))), ?_⟩
    refine ⟨_, rfl, x, rfl, tx, _, rfl, ?_⟩
    cases hx : primeV x with
    | false => exact iteT (raise0 N1 Ext.rfl' fun H' e => kP H' hx e)
    | true =>
      refine iteF ⟨_, rfl, 3, y, rfl, ty, _, rfl, ?_⟩
      cases hy : numV 3 y with
      | false => exact iteT (raise0 N2 Ext.rfl' fun H' e => kN H' hx hy e)
      | true =>
        obtain ⟨pr, rfl, hpr⟩ := primeV_true.mp hx
        obtain ⟨dp, rfl, d0, d3⟩ := numV_true.mp hy
        refine iteF ⟨Nat.zero_le _, fun bo nbo go ngo kd nkd => ?_⟩
        have x1 := Ext.upd (o := .lst []) nbo
        have x2 := Ext.upd (o := .dK []) ngo
        have x3 := Ext.upd (o := .dK []) nkd
        have x13 := x1.trans (x2.trans x3)
        have hbo : (upd (upd (upd H bo (.lst [])) go (.dK [])) kd (.dK [])) bo = some (.lst (([] : List Int).map V.int)) := x3 _ _ (x2 _ _ upd_same)
        have hgo : (upd (upd (upd H bo (.lst [])) go (.dK [])) kd (.dK [])) go = some (.dK []) := x3 _ _ upd_same
        have hkd : (upd (upd (upd H bo (.lst [])) go (.dK [])) kd (.dK [])) kd = some (.dK []) := upd_same
        have nbg : bo ≠ go := ne_of_none (show (upd H bo (.lst [])) bo = some (.lst []) from upd_same) ngo
        have nbk : bo ≠ kd := ne_of_none (x2 _ _ (show (upd H bo (.lst [])) bo = some (.lst []) from upd_same)) nkd
        have ngk : go ≠ kd := ne_of_none (show (upd (upd H bo (.lst [])) go (.dK [])) go = some (.dK []) from upd_same) nkd
        have fb : ∀ q o, H q = some o → q ∉ [bo, go, kd] := fun q o h => by
          have h1 := ne_of_none h nbo
          have h2 := ne_of_none (x1 _ _ h) ngo
          have h3 := ne_of_none (x2 _ _ (x1 _ _ h)) nkd
          simp only [List.mem_cons, List.not_mem_nil, or_false, not_or]
          exact ⟨h1, h2, h3⟩
        generalize upd (upd (upd H bo (.lst [])) go (.dK [])) kd (.dK []) = H1 at *
        have keep : ∀ {J : Hp}, GoS [bo, go, kd] H1 J → ∀ q o, H q = some o → J q = some o := fun {J} g q o h => g q o (fb q o h) (x13 _ _ h)
        have rdJ : ∀ {J : Hp}, GoS [bo, go, kd] H1 J → Rd J b (.tup (as.map V.ref)) := fun {J} g => by
          rcases hb with h | ⟨o, h⟩
          · exact .inl (keep g _ _ h)
          · exact .inr ⟨o, keep g _ _ h⟩
        have extJ : ∀ {J : Hp}, GoS [bo, go, kd] H1 J → Ext H J := fun {J} g q o h => keep g q o h
        refine ⟨_, rfl, p, CT, dx, _, _, rfl, x13 _ _ hp, W.cl, W.nC, cf_cells _, b, _, rfl, rd_ext x13 hb, for_en (a := b) (xs := as.map V.ref) (fun i σ' J => (∃ v6 v7 v8, σ' = [some (.ref p), some (.int pr), some (.int dp), some (.ref bo), some (.ref go), some (.ref kd), v6, v7, v8]) ∧ GoS [bo, go, kd] H1 J ∧ (∃ bs : List Int, J bo = some (.lst (bs.map V.int)) ∧ bs.length ≤ i) ∧ IntD J go i ∧ Kept pr ll.length i bo J kd)
          ⟨⟨_, _, _, rfl⟩, (fun _ _ _ h => h), ⟨[], hbo, Nat.le_refl _⟩, ⟨[], hgo, Nat.le_refl _, (fun _ h => nomatch h)⟩, ⟨[], hkd, Nat.le_refl _, (fun _ h => nomatch h), (fun _ h => nomatch h)⟩⟩ (fun i σ' J h => rdJ h.2.1) ?_ ?_⟩
        · rintro i z σ' J q hz ⟨⟨v6, v7, v8, rfl⟩, g, ⟨bs, hbs, lb⟩, gd', kt⟩ nq
          obtain ⟨c, hc, rfl⟩ := ref_get hz
          obtain ⟨l, hl, hcl⟩ := pt.get hc
          have okl := good_prefix gd hl
          have fl : ∀ f ∈ facesL l, f ∈ ll := fun f hf => List.mem_of_mem_take (okl.2.2 f hf)
          have et := Ext.upd (o := .tup [V.int (i : Nat), .ref c]) nq
          have il : i < ll.length := (List.getElem?_eq_some_iff.mp hl).1
          refine ⟨q, _, rfl, SqT.of upd_same, rfl, _, _, rfl, _, _, rfl, rfl, ?_⟩
          have g1 := g.trans (GoS.of et)
          have hbs1 := et _ _ hbs
          have gd1 : IntD (upd J q (.tup [V.int (i : Nat), .ref c])) go i := let ⟨kvs, h1, h2, h3⟩ := gd'; ⟨kvs, et _ _ h1, h2, h3⟩
          have kt1 : Kept pr ll.length i bo (upd J q (.tup [V.int (i : Nat), .ref c])) kd := let ⟨kvs, h1, h2, h3, h4⟩ := kt; ⟨kvs, et _ _ h1, h2, h3.ext (fun l h => h.ext et), h4⟩
          generalize upd J q (.tup [V.int (i : Nat), .ref c]) = J1 at *
          have tr1 : TR J1 b ll := ⟨as, rdJ g1, PT2.mono (fun _ _ z => extJ g1 _ _ z) pt⟩
          refine ⟨_, rfl, _, rfl, p, CT, dx, _, _, rfl, extJ g1 _ _ hp, W.cl, W.nC, cf_cells _, _, rfl, _, rfl, b, c, l, ll, pr, rfl, tr1, bare.ext (extJ g1), extJ g1 _ _ hcl, okl.1.1, okl.1.2.1, fl, hpr, by omega, fun row J2 e2 hrow => ?_⟩
          have g2 := g1.trans (GoS.of e2)
          have kt2 : Kept pr ll.length i bo J2 kd := let ⟨kvs, h1, h2, h3, h4⟩ := kt1; ⟨kvs, e2 _ _ h1, h2, h3.ext (fun l h => h.ext e2), h4⟩
          have gd2 : IntD J2 go i := let ⟨kvs, h1, h2, h3⟩ := gd1; ⟨kvs, e2 _ _ h1, h2, h3⟩
          have hbs2 := e2 _ _ hbs1
          have mk : kd ∈ [bo, go, kd] := by simp
          have mg' : go ∈ [bo, go, kd] := by simp
          have mb : bo ∈ [bo, go, kd] := by simp
          refine ⟨_, rfl, pr, ll.length, i, row, kd, bo, rfl, hpr, by omega, by omega, hrow, nbk, ⟨_, hbs2⟩, kt2, fun J3 g3 k3 => ?_, fun m J3 mlt g3 k3 => ?_⟩
          · have g13 := g2.trans (GoS.ofD mk g3)
            have hbs3 := g3 _ _ nbk hbs2
            have gd3 : IntD J3 go (i + 1) := let ⟨kvs, h1, h2, h3⟩ := gd2; ⟨kvs, g3 _ _ ngk h1, by omega, h3⟩
            refine ⟨_, rfl, rfl, _, rfl, ?_⟩
            refine ite2 (fun z => absurd z (by decide)) (fun _ => ?_)
            refine ⟨_, rfl, c, _, rfl, .inr (SqT.of (extJ g13 _ _ hcl)), _, rfl, _, _, rfl, rfl, rfl, _, rfl, ?_⟩
            refine ite2 (fun _ => ?_) (fun _ => ⟨⟨_, _, _, rfl⟩, g13, ⟨bs, hbs3, by omega⟩, gd3, k3⟩)
            refine ⟨_, rfl, .inl ⟨rfl, _, SqL.of hbs3⟩, _, rfl, bo, _, _, rfl, rfl, hbs3, small1000 (by rw [List.length_map]; omega), ?_⟩
            have put : GoS [bo, go, kd] J3 (upd J3 bo (.lst (bs.map V.int ++ [.int (i : Nat)]))) := GoS.put mb
            refine ⟨⟨_, _, _, rfl⟩, g13.trans put, ⟨bs ++ [((i : Nat) : Int)], by rw [upd_same, List.map_append]; rfl, by rw [List.length_append]; show bs.length + 1 ≤ i + 1; omega⟩, ?_, ?_⟩
            · obtain ⟨kvs, h1, h2, h3⟩ := gd3
              exact ⟨kvs, by rw [upd_ne nbg.symm]; exact h1, h2, h3⟩
            · obtain ⟨kvs, h1, h2, h3, h4⟩ := k3
              refine ⟨kvs, by rw [upd_ne nbk.symm]; exact h1, h2, fun kv hkv => ?_, h4⟩
              obtain ⟨a', r, h5, h6, ns, h7, h8⟩ := h3 kv hkv
              have nr : r ≠ bo := fun e => h4 kv hkv (by rw [h5, e])
              exact ⟨a', r, h5, h6, ns, by rw [upd_ne nr]; exact h7, h8⟩
          · have g13 := g2.trans (GoS.ofD mk g3)
            have hbs3 := g3 _ _ nbk hbs2
            obtain ⟨gvs, hg3, lg3, vg3⟩ : IntD J3 go i := let ⟨kvs, h1, h2, h3⟩ := gd2; ⟨kvs, g3 _ _ ngk h1, h2, h3⟩
            refine ⟨_, rfl, rfl, _, rfl, ?_⟩
            refine ite2 (fun _ => ?_) (fun z => absurd rfl z)
            refine ⟨_, rfl, _, rfl, _, rfl, p, CT, dx, _, _, rfl, extJ g13 _ _ hp, W.cl, W.nC, cf_cells _, b, _, rfl, .inr (.inl (rdJ g13)), _, _, rfl, rfl, _, rfl, _, _, rfl, rfl, go, _, rfl, DPut.k (k := .inl ((((as.map V.ref).length : Nat) : Int) - 1 - (m : Int))) hg3 (small1000 (by omega)), ?_⟩
            have put : GoS [bo, go, kd] J3 (upd J3 go (.dK (putK gvs (.inl ((((as.map V.ref).length : Nat) : Int) - 1 - (m : Int))) (.int (i : Nat))))) := GoS.put mg'
            refine ⟨⟨_, _, _, rfl⟩, g13.trans put, ⟨bs, by rw [upd_ne nbg]; exact hbs3, by omega⟩, ⟨_, upd_same, ?_, fun kv hkv => ?_⟩, ?_⟩
            · have := length_putK gvs (.inl ((((as.map V.ref).length : Nat) : Int) - 1 - (m : Int))) (V.int (i : Nat))
              omega
            · rcases mem_putK hkv with z | z
              · exact vg3 kv z
              · exact ⟨_, by rw [z]⟩
            · obtain ⟨kvs, h1, h2, h3, h6⟩ := k3
              refine ⟨kvs, by rw [upd_ne ngk.symm]; exact h1, h2, h3.ext (fun r hr => ?_), h6⟩
              obtain ⟨ns, h4, h5⟩ := hr
              exact ⟨ns, by rw [upd_ne (lst_dk h4 hg3)]; exact h4, h5⟩
        · rintro σ' J ⟨⟨v6, v7, v8, rfl⟩, g, ⟨bs, hbs, lb⟩, gd', kt⟩
          obtain ⟨gvs, hgv, lg, vg⟩ := gd'
          rw [List.length_map, la] at lb
          refine ⟨_, rfl, bo, rfl, ⟨_, SqL.of hbs⟩, fun D nD => ?_⟩
          refine lc_gen (n := (bs.map V.int).length) (p := fun _ => true) walk_list nD (by rw [List.length_map]; omega) (fun _ y S => BarV S y) (fun _ _ _ _ t z => z.mono t) (fun H' e => SqL.of (e _ _ hbs)) ?_ ?_
          · rintro j y J2 J2' R N hj e2 ⟨rfl, hy⟩ hR hN
            obtain ⟨v, hv, rfl⟩ := map_int_get hy
            refine ⟨rfl, tyes_in ⟨_, rfl, _, rfl, go, rfl, .inl ⟨gvs, .inl (e2 _ _ hgv)⟩, _, rfl, valV gvs (.inl v), DGet.k (k := .inl v) (e2 _ _ hgv), by show 2 ≤ sizeLine; decide, fun t nt => ?_⟩⟩
            refine hR rfl _ _ (Ext.upd nt) ⟨t, v, _, rfl, upd_same, ?_⟩
            cases hvv : valV gvs (.inl v) with
            | none => exact .inl rfl
            | some u =>
              obtain ⟨j', hj'⟩ := vg _ (valV_mem hvv)
              exact .inr ⟨j', hj'⟩
          intro ys J2 e2 hD pp
          have lys : ys.length ≤ 40 := by
            rw [← Paired.length pp]
            exact Nat.le_trans (List.length_filter_le _ _) (by rw [List.length_range, List.length_map]; omega)
          have all : ∀ z ∈ ys, BarV J2 z := by
            clear hD lys
            generalize (List.range (bs.map V.int).length).filter (fun _ => true) = rr at pp
            induction pp with
            | nil => exact fun _ z => nomatch z
            | cons a _ ih =>
              intro z hz
              rcases List.mem_cons.mp hz with rfl | hz
              · exact a
              · exact ih z hz
          refine ⟨D, ys, rfl, .inl ⟨SqL.of hD, fun t nt => ?_⟩⟩
          have et := Ext.upd (o := .tup ys) nt
          exact k t ys _ hx hy (((extJ g).trans e2).trans et) upd_same lys fun z hz => (all z hz).mono (TExt.of et)
end
end V44

set_option Elab.async false
set_option linter.all false
set_option maxRecDepth 100000
set_option maxHeartbeats 4000000
set_option pp.maxSteps 100
/-! tuple * 0, tuple * 1. -/
namespace V44
open PySem PySem.Spec PyProof.Rows L2
open AutoSeq1 (wpAny_loadPart')
theorem tuple_mul1 (l : Addr) (items : Array Value) (n : Nat) (dd : Option Addr) (sl : Array (Option Value)) (u : Tok) :
    Meets (Builtin.«tuple.__mul__» ⟨[.ref l, .int 1 u], []⟩) (fun _ R s => s.heap.get? l = some { cls := .type "tuple", dict := dd, data := .seq items n, slots := sl } ∧ R (.ok (.ret (Value.ref l))) s) :=
  .of_wp fun prog w A R s h => by
    obtain ⟨hp, g, d, tk, os⟩ := s
    obtain ⟨hl, h⟩ := h
    have f1 := AutoSeq1.idx_int
    have c1 : (items.isEmpty || (1 : Int) == 1) = true := by rw [beq_self_eq_true, Bool.or_true]
    wp_walk using wpAny_loadPart' hl
    repeat (first
      | (refine wpAny_ite_false (by decide) ?_; wp_walk using wpAny_loadPart' hl)
      | (refine wpAny_ite_true (decide_eq_true c1) ?_; wp_walk using wpAny_loadPart' hl))
    exact ⟨_, rfl, h⟩
theorem tuple_mul0 (l : Addr) (items : Array Value) (n : Nat) (dd : Option Addr) (sl : Array (Option Value)) (u : Tok) (hne : items.isEmpty = false) :
    Meets (Builtin.«tuple.__mul__» ⟨[.ref l, .int 0 u], []⟩) (fun _ R s => s.heap.get? l = some { cls := .type "tuple", dict := dd, data := .seq items n, slots := sl } ∧
      R (.ok (.ret (Value.ref s.heap.objs.size))) { s with heap := s.heap.push { cls := Value.type "tuple", data := Data.seq #[] }, toks := s.toks }) :=
  .of_wp fun prog w A R s h => by
    obtain ⟨hp, g, d, tk, os⟩ := s
    obtain ⟨hl, h⟩ := h
    have f1 := AutoSeq1.idx_int
    have c1 : (items.isEmpty || (0 : Int) == 1) = false := by rw [hne]; rfl
    have c2 : (decide ((0 : Int) ≤ 0) || items.isEmpty) = true := by rw [decide_eq_true (by decide)]; rfl
    wp_walk using wpAny_loadPart' hl
    repeat (first
      | (refine wpAny_ite_false (decide_eq_false (by rw [c1]; exact Bool.false_ne_true)) ?_; wp_walk using wpAny_loadPart' hl)
      | (refine wpAny_ite_true (decide_eq_true c2) ?_; wp_walk using wpAny_loadPart' hl)
      | (refine wpAny_ite_false (decide_eq_false (Nat.not_lt.mpr (Nat.zero_le _))) ?_; wp_walk using wpAny_loadPart' hl)
      | (refine wpAny_ite_false (by decide) ?_; wp_walk using wpAny_loadPart' hl))
    exact ⟨_, rfl, h⟩
/-- t * k, k not negative -/
def rRepA (K : PySem.W.Frag) : R2 := fun x y H Q => ∃ (l : Addr) (k : Int) (xs : List V), x = .ref l ∧ y = .int k ∧ H l = some (.tup xs) ∧ xs ≠ [] ∧ 0 ≤ k ∧ k ≤ 1000 ∧ xs.length ≤ 1000 ∧ ∀ (p : Addr) (H' : Hp), Ext H H' → H' p = some (.tup (List.replicate k.toNat xs).flatten) → Q (.ref p) H'
theorem op_repA {X : Cx} : OpR X (binaryOp .Mult) (rRepA X.K) := by
  intro pins s σ H x y v u Q I rx ry h
  obtain ⟨l, k, xs, rfl, rfl, hT, hne, k0, k1, hz, q⟩ := h
  by_cases two : 2 ≤ k
  · exact op_repT pins s σ H _ _ v u Q I rx ry ⟨l, k, xs, rfl, rfl, SqT.of hT, hne, two, k1, hz, fun p np => q p _ (Ext.upd np) upd_same⟩
  cases rx
  obtain ⟨t, rfl⟩ := ry
  obtain ⟨its, r, ⟨⟨cls, dd, data, sl⟩, ho, hc, n, hd⟩, hs⟩ := I.tuple (SqT.of hT)
  simp only at hc hd
  subst hc hd
  have hle : its.length = xs.length := r.length.symm
  have hi : its.toArray.isEmpty = false := by
    cases its with
    | nil => exact absurd (List.eq_nil_of_length_eq_zero hle.symm) hne
    | cons a b => rfl
  have k01 : k = 0 ∨ k = 1 := by omega
  rcases k01 with rfl | rfl
  · refine wpAny_binaryOp_repeat_ref (T := "tuple") (U := "int") (by decide) ⟨_, ho, rfl⟩ (fun s' => typeIs_int s' 0 t) noFill_tuple_mul F.fills_int_mul F.slot_int_rmul repeat_tuple F.slot_int_index.lookup
      (call_meets F.slot_int_rmul (typeIs_int s 0 t) F.entry_int_rmul (F.args_int_rmul_2 _ _) (int_rmul_tuple 0 t l its.toArray n dd sl)
        ⟨ho, rfl, ⟨_, ho, rfl⟩, call_meets F.slot_tuple_mul ⟨_, ho, rfl⟩ F.entry_tuple_mul (F.args_tuple_mul_2 _ _) (tuple_mul0 l its.toArray n dd sl t hi) ⟨ho, ?_⟩⟩)
    exact ⟨.ref s.heap.objs.size, _, I.laid (t' := s.toks) (o := .tup []) (fun b ob q => Heap.get?_push_of_some _ q) (Nat.le_refl _) ⟨Nat.zero_le _, [], .nil, ⟨_, Heap.get?_push_size _ rfl, rfl, _, rfl⟩⟩, rfl, q _ _ (Ext.upd (I.hok.fresh (Nat.le_refl _))) upd_same⟩
  · refine wpAny_binaryOp_repeat_ref (T := "tuple") (U := "int") (by decide) ⟨_, ho, rfl⟩ (fun s' => typeIs_int s' 1 t) noFill_tuple_mul F.fills_int_mul F.slot_int_rmul repeat_tuple F.slot_int_index.lookup
      (call_meets F.slot_int_rmul (typeIs_int s 1 t) F.entry_int_rmul (F.args_int_rmul_2 _ _) (int_rmul_tuple 1 t l its.toArray n dd sl)
        ⟨ho, rfl, ⟨_, ho, rfl⟩, call_meets F.slot_tuple_mul ⟨_, ho, rfl⟩ F.entry_tuple_mul (F.args_tuple_mul_2 _ _) (tuple_mul1 l its.toArray n dd sl t) ⟨ho, ?_⟩⟩)
    exact ⟨.ref l, H, I, rfl, q l H Ext.rfl' (by
      have e : (List.replicate (1 : Int).toNat xs).flatten = xs := by
        show (List.replicate 1 xs).flatten = xs
        rw [List.replicate_one, List.flatten_cons, List.flatten_nil, List.append_nil]
      rw [e]
      exact hT)⟩
end V44

set_option Elab.async false
set_option linter.all false
set_option maxRecDepth 100000
set_option maxHeartbeats 4000000
set_option pp.maxSteps 100
/-! Tables made, and put together. -/
namespace V44
open PySem L2
abbrev sTabI : Stmt := inClass (top 28) 0
abbrev sTabOf : Stmt := top 30
abbrev sCorner : Stmt := top 31
structure TabD (K : PySem.W.Frag) (mg : Str → Option Value) (CT : Addr) : Prop where
  cl : Cls K CT
  n1 : NoAttr K CT "prime"
  n2 : NoAttr K CT "wide"
  n3 : NoAttr K CT "rows"
  n4 : NoAttr K CT "high"
  mgC : mg "Table" = some (.ref CT)
  mo : ∃ t, mg "MOST" = some (.int 12 t)
def tf (pr w : Int) (b : Addr) (h : Int) : List (Str × V) := [("prime", .int pr), ("wide", .int w), ("rows", .ref b), ("high", .int h)]
def TabAt (CT : Addr) (H : Hp) (p : Addr) (pr w : Int) (b : Addr) (h : Int) : Prop := ∃ dx, H p = some (.ins CT dx (tf pr w b h))
theorem TabAt.ext {CT p b : Addr} {pr w h : Int} {H H' : Hp} (e : Ext H H') (x : TabAt CT H p pr w b h) : TabAt CT H' p pr w b h := x.imp fun _ z => e _ _ z
def spTab (CT : Addr) : Sp := fun vs H Q _ => ∃ (p b dx : Addr) (pr : Int), vs = [.ref p, .int pr, .int 0, .ref b] ∧ Pr pr ∧ H p = some (.ins CT dx []) ∧ Rd H b (.tup []) ∧ ∀ H' : Hp, H' p = some (.ins CT dx (tf pr 0 b 0)) → (∀ c o, c ≠ p → H c = some o → H' c = some o) → Q .non H'
def spTabOf (CT : Addr) : Sp := fun vs H Q _ => ∃ (b : Addr) (pr w : Int) (xs : List V), vs = [.int pr, .int w, .ref b] ∧ Pr pr ∧ Rd H b (.tup xs) ∧ ∀ (p : Addr) (H' : Hp), Ext H H' → TabAt CT H' p pr w b (xs.length : Int) → Q (.ref p) H'
/-- a table, its rows no longer than M -/
def TabS (CT : Addr) (H : Hp) (p : Addr) (pr w : Int) (h M : Nat) : Prop := ∃ (b : Addr) (rs : List Addr), TabAt CT H p pr w b (h : Int) ∧ H b = some (.tup (rs.map V.ref)) ∧ rs.length = h ∧ (∀ r ∈ rs, ∃ xs, H r = some (.tup xs) ∧ xs.length ≤ M) ∧ 0 ≤ w ∧ w ≤ (M : Int)
theorem TabS.ext {CT p : Addr} {pr w : Int} {h M : Nat} {H H' : Hp} (e : Ext H H') (x : TabS CT H p pr w h M) : TabS CT H' p pr w h M := let ⟨b, rs, h1, h2, h3, h4, h5⟩ := x; ⟨b, rs, h1.ext e, e _ _ h2, h3, fun r hr => let ⟨xs, a, c⟩ := h4 r hr; ⟨xs, e _ _ a, c⟩, h5⟩
def spCorner (CT : Addr) : Sp := fun vs H Q _ => ∃ (p q : Addr) (pr w1 w2 : Int) (h1 h2 M1 M2 : Nat), vs = [.ref p, .ref q] ∧ Pr pr ∧ TabS CT H p pr w1 h1 M1 ∧ TabS CT H q pr w2 h2 M2 ∧ M1 + M2 ≤ 500 ∧ h1 + h2 ≤ 500 ∧ ∀ (r : Addr) (H' : Hp), Ext H H' → TabS CT H' r pr (w1 + w2) (h1 + h2) (M1 + M2) → Q (.ref r) H'
theorem ty_rd {K : PySem.W.Frag} {H : Hp} {b : Addr} {xs : List V} (hb : Rd H b (.tup xs)) : TyX K H (.ref b) (.type "tuple") := by
  rcases hb with h | ⟨o, h⟩
  · exact .base (.tup h)
  · exact .fTuple h
section
variable {P : Program} {w : World} {K : PySem.W.Frag} {mg : Str → Option Value} {base : Heap}
theorem scTabI : FnScope ["self", "prime", "wide", "rows", "at", "row"] ["self", "prime", "wide", "rows"] (defScope sTabI) := ⟨rfl, rfl, rfl, by decide +kernel, rfl, by decide +kernel, by decide +kernel⟩
theorem ok_tab {f CT : Addr} {fd : FuncData} (F : L2.Fun K "__init__" "Table.__init__" sTabI f fd) (T : Gb mg) (D : TabD K mg CT) (cP : Cal P w K mg base 2 "is_prime" (spPrime K) []) (cN : Cal P w K mg base 2 "is_number" (spNumber K) []) :
    FnOk P w K mg base CX0 3 f fd ["self", "prime", "wide", "rows"] (spTab CT) := by
  obtain ⟨t12, h12⟩ := D.mo
  refine F.ok scTabI (fun vs H Q E h => ?_) (fun cdv A outer s H vs Q E hr h => ?_)
  · obtain ⟨p, b, dx, pr, rfl, _⟩ := h
    rfl
  · obtain ⟨p, b, dx, pr, rfl, hpr, hp, hb, k⟩ := h
    refine ⟨_, pss_cons (ps_if (pt_not (pt_val (C8.pe_c cP hr (by decide) (by rfl) (pa_cons (pv 1) pa_nil)))) (pss_one ps_never) pss_nil)
      (pss_cons (ps_if (pt_not (pt_val (C8.pe_c cN hr (by decide) (by rfl) (pa_cons (pe_glob (v := .int 12) rfl h12 ⟨_, rfl⟩) (pa_cons (pv 2) pa_nil))))) (pss_one ps_never) pss_nil)
      (pss_cons (ps_if (PW.pt (pw_or (pt_not (pt_val (pe_callB call_isi (by rfl) T.isi (by decide +kernel) (pa_cons (pv 3) (pa_cons (pe_bltn (v := .ty "tuple") (by rfl) T.tup (by decide +kernel) rfl) pa_nil))))) (pw_or1 (pt_cmpR op_gt (pe_callB call_len_seq (by rfl) T.len PySem.boot_len (pa_cons (pv 3) pa_nil)) (pe_glob (v := .int 12) rfl h12 ⟨_, rfl⟩) (nomark _))))) (pss_one ps_never) pss_nil)
      (pss_cons (ps_for PassesOwn.never rfl (pi_en (by rfl) T.enum (pa_cons (pv 3) pa_nil)) (pg_tup rfl (pgs_cons (pg_name (i := 4) scTabI.nd rfl (Or.inl rfl)) (pgs_cons (pg_name (i := 5) scTabI.nd rfl (Or.inl rfl)) pgs_nil)))
      (pss_one ps_never))
      (pss_cons (ps_fld (pv 0) (pv 1) rfl)
      (pss_cons (ps_fld (pv 0) (pv 2) rfl)
      (pss_cons (ps_fld (pv 0) (pv 3) rfl)
      (pss_one (ps_fld (pv 0) (pe_callB call_len_seq (by rfl) T.len PySem.boot_len (pa_cons (pv 3) pa_nil)) rfl)))))))), ?_⟩
    refine ⟨_, rfl, .int pr, rfl, Th.int pr, _, rfl, ?_⟩
    rw [primeV_true.mpr ⟨pr, rfl, hpr⟩]
    refine iteF ⟨_, rfl, 12, .int 0, rfl, Th.int 0, _, rfl, iteF ?_⟩
    refine ⟨_, rfl, _, .ty "tuple", .type "tuple", .type "tuple", true, rfl, .ty _, ty_rd hb, kit_ty (by decide +kernel), _, rfl, ?_⟩
    refine iteF ⟨_, rfl, b, [], rfl, .inr (.inl hb), _, _, rfl, rfl, _, rfl, iteF ?_⟩
    refine ⟨_, rfl, b, [], rfl, hb, for_en (a := b) (xs := []) (fun i σ' H' => σ' = [some (.ref p), some (.int pr), some (.int 0), some (.ref b), Option.none, Option.none] ∧ H' = H) ⟨rfl, rfl⟩ (fun i σ' H' h => by rw [h.2]; exact hb) (fun i x σ' H' q hx => by cases hx) ?_⟩
    rintro σ' H' ⟨rfl, rfl⟩
    have npb : b ≠ p := fun e => by rcases hb with hb | ⟨o, hb⟩ <;> (rw [e, hp] at hb; cases hb)
    have up : ∀ {J : Hp} {o : HO}, Rd J b (.tup []) → Rd (upd J p o) b (.tup []) := fun {J o} h => by
      rcases h with h | ⟨o', h⟩
      · exact .inl (by rw [upd_ne npb]; exact h)
      · exact .inr ⟨o', by rw [upd_ne npb]; exact h⟩
    refine ⟨_, rfl, _, rfl, p, CT, dx, [], rfl, hp, D.cl, D.n1, (by show 0 < 1000; decide), ?_⟩
    refine ⟨_, rfl, _, rfl, p, CT, dx, _, rfl, upd_same, D.cl, D.n2, (by show 1 < 1000; decide), ?_⟩
    refine ⟨_, rfl, _, rfl, p, CT, dx, _, rfl, upd_same, D.cl, D.n3, (by show 2 < 1000; decide), ?_⟩
    refine ⟨_, rfl, b, [], rfl, .inr (.inl (up (up (up hb)))), _, rfl, p, CT, dx, _, rfl, upd_same, D.cl, D.n4, (by show 3 < 1000; decide), ?_⟩
    exact k _ upd_same fun c o n e => by rw [upd_ne n, upd_ne n, upd_ne n, upd_ne n]; exact e
theorem scTabOf : FnScope ["prime", "wide", "rows", "table"] ["prime", "wide", "rows"] (defScope sTabOf) := ⟨rfl, rfl, rfl, by decide +kernel, rfl, by decide +kernel, by decide +kernel⟩
theorem ok_tabOf {f fT CT : Addr} {fd fdT : FuncData} (F : L2.Fun K "table_of" "table_of" sTabOf f fd) (T : Gb mg) (D : TabD K mg CT) (MT : Mk K CT fT) (FT : FnOk P w K mg base CX0 3 fT fdT ["self", "prime", "wide", "rows"] (spTab CT)) (bT : Binds K fdT ["self", "prime", "wide", "rows"] []) :
    FnOk P w K mg base CX0 5 f fd ["prime", "wide", "rows"] (spTabOf CT) := by
  refine F.ok scTabOf (fun vs H Q E h => ?_) (fun cdv A outer s H vs Q E hr h => ?_)
  · obtain ⟨b, pr, w, xs, rfl, _⟩ := h
    rfl
  · obtain ⟨b, pr, wd, xs, rfl, hpr, hb, k⟩ := h
    refine ⟨_, pss_cons (ps_set (i := 3) scTabOf.nd rfl (Or.inl rfl) (pe_make MT FT hr (by rfl) D.mgC bT .nil pass0 (pa_cons (pv 0) (pa_cons pe_int (pa_cons (pe_tup pa_nil) pa_nil)))))
      (pss_cons (ps_fld (pv 3) (pv 1) rfl)
      (pss_cons (ps_fld (pv 3) (pv 2) rfl)
      (pss_cons (ps_fld (pv 3) (pe_callB call_len_seq (by rfl) T.len PySem.boot_len (pa_cons (pv 2) pa_nil)) rfl)
      (pss_one (ps_ret (pv 3)))))), ?_⟩
    refine ⟨_, rfl, Nat.zero_le _, fun e ne p dx np ndx nd => ?_⟩
    have x0 := Ext.upd (o := .tup []) ne
    have x1 := Ext.upd (o := .own p) ndx
    have np1 : (upd (upd H e (.tup [])) dx (.own p)) p = Option.none := by rw [upd_ne nd.symm]; exact np
    have x2 := Ext.upd (o := .ins CT dx []) np1
    have x02 := x0.trans (x1.trans x2)
    have nep : e ≠ p := ne_of_none (show (upd H e (.tup [])) e = some (.tup []) from upd_same) np
    refine ⟨p, e, dx, pr, rfl, hpr, upd_same, .inl (x2 _ _ (x1 _ _ upd_same)), fun H' hp kp => ⟨rfl, ?_⟩⟩
    have npH : H p = Option.none := none_of_ext x0 np
    have e' : Ext H H' := fun c o h => kp c o (ne_of_none h npH) (x02 _ _ h)
    have bp : b ≠ p := fun z => by rcases hb with hb | ⟨o, hb⟩ <;> (rw [z, npH] at hb; cases hb)
    have up : ∀ {J : Hp} {o : HO}, Rd J b (.tup xs) → Rd (upd J p o) b (.tup xs) := fun {J o} h => by
      rcases h with h | ⟨o', h⟩
      · exact .inl (by rw [upd_ne bp]; exact h)
      · exact .inr ⟨o', by rw [upd_ne bp]; exact h⟩
    refine ⟨_, rfl, _, rfl, p, CT, dx, _, rfl, hp, D.cl, D.n2, (by show 4 < 1000; decide), ?_⟩
    refine ⟨_, rfl, _, rfl, p, CT, dx, _, rfl, upd_same, D.cl, D.n3, (by show 4 < 1000; decide), ?_⟩
    refine ⟨_, rfl, b, xs, rfl, .inr (.inl (up (up (rd_ext e' hb)))), _, rfl, p, CT, dx, _, rfl, upd_same, D.cl, D.n4, (by show 4 < 1000; decide), ?_⟩
    refine ⟨_, rfl, k p _ (fun c o h => ?_) ⟨dx, upd_same⟩⟩
    have n := ne_of_none h npH
    rw [upd_ne n, upd_ne n, upd_ne n]
    exact e' _ _ h
theorem tf_prime (pr w : Int) (b : Addr) (h : Int) : (tf pr w b h).lookup ("prime" : Str) = some (.int pr) := by rfl
theorem tf_wide (pr w : Int) (b : Addr) (h : Int) : (tf pr w b h).lookup ("wide" : Str) = some (.int w) := by rfl
theorem tf_rows (pr w : Int) (b : Addr) (h : Int) : (tf pr w b h).lookup ("rows" : Str) = some (.ref b) := by rfl
theorem tf_high (pr w : Int) (b : Addr) (h : Int) : (tf pr w b h).lookup ("high" : Str) = some (.int h) := by rfl
theorem rep1 {x : V} {k : Int} : (List.replicate k.toNat [x]).flatten = List.replicate k.toNat x := List.flatten_replicate_singleton
theorem pe_fldK {X : Cx} {K : PySem.W.Frag} {e : Expr} {f : Str} {pos : Pos} {ta : TE} (hK : X.K = K) (he : PE X e ta) (hb : attributeBase e f X.env (eval e X.env) = eval e X.env) : PE X (.Attribute e f pos) (tFld K ta f) := by
  subst hK
  exact pe_fld he hb
/-- rows made: tuples no longer than M -/
theorem rows_of {S : Hp} {M : Nat} : ∀ {rr : List Nat} {ys : List V}, Paired (fun (_ : Nat) y => ∃ r xs, y = V.ref r ∧ S r = some (.tup xs) ∧ xs.length ≤ M) rr ys → ∃ rs : List Addr, ys = rs.map V.ref ∧ rs.length = rr.length ∧ ∀ r ∈ rs, ∃ xs, S r = some (.tup xs) ∧ xs.length ≤ M
  | _, _, .nil => ⟨[], rfl, rfl, fun _ h => nomatch h⟩
  | _, _, .cons ⟨r, xs, e, h, l⟩ t => by
    obtain ⟨rs, h1, h2, h3⟩ := rows_of t
    refine ⟨r :: rs, by rw [e, h1]; rfl, by rw [List.length_cons, List.length_cons, h2], fun q hq => ?_⟩
    rcases List.mem_cons.mp hq with rfl | hq
    · exact ⟨xs, h, l⟩
    · exact h3 q hq
abbrev cornerN : List Str := ["one", "other", "ahead", "beneath", "row"]
theorem scCorner : FnScope cornerN ["one", "other"] (defScope sCorner) := ⟨rfl, rfl, rfl, by decide +kernel, rfl, by decide +kernel, by decide +kernel⟩
theorem ok_corner {f CT : Addr} {fd : FuncData} (F : L2.Fun K "corner" "corner" sCorner f fd) (T : Gb mg) (D : TabD K mg CT) (cT : Cal P w K mg base 5 "table_of" (spTabOf CT) []) : FnOk P w K mg base CX0 6 f fd ["one", "other"] (spCorner CT) := by
  refine F.ok scCorner (fun vs H Q E h => ?_) (fun cdv A outer s H vs Q E hr h => ?_)
  · obtain ⟨p, q, pr, w1, w2, h1, h2, M1, M2, rfl, _⟩ := h
    rfl
  · obtain ⟨p, q, pr, w1, w2, h1, h2, M1, M2, rfl, hpr, ⟨b1, rs1, ⟨dx1, t1⟩, hb1, l1, r1, u1, v1⟩, ⟨b2, rs2, ⟨dx2, t2⟩, hb2, l2, r2, u2, v2⟩, hM, hh, k⟩ := h
    refine ⟨_, pss_cons (ps_if (pt_cmpR op_ne (pe_fld (pv 0) rfl) (pe_fld (pv 1) rfl) (nomark _)) (pss_one ps_never) pss_nil)
      (pss_cons (ps_setLc (i := 2) (own := [("row", 4)]) (g := gName 4) (tt := tYes) rfl scCorner.nd rfl rfl (sw_true rfl rfl rfl (by decide +kernel)) (pi_tup (pe_fld (pv 0) rfl)) (blkOk_by (N := cornerN) (sc := defScope sCorner) (by decide +kernel)) (fun _ _ _ _ _ => (pg_name (i := 4) scCorner.nd rfl (Or.inl rfl))) (fun _ _ _ _ _ => pts_nil) (fun _ _ _ _ _ => (pe_op (r := rCatA K) op_catA (pv 4) (pe_op (r := rRepA K) op_repA (pe_tup (pa_cons pe_int pa_nil)) (pe_fldK (K := K) rfl (pv 1) rfl)))))
      (pss_cons (ps_setLc (i := 3) (own := [("row", 4)]) (g := gName 4) (tt := tYes) rfl scCorner.nd rfl rfl (sw_true rfl rfl rfl (by decide +kernel)) (pi_tup (pe_fld (pv 1) rfl)) (blkOk_by (N := cornerN) (sc := defScope sCorner) (by decide +kernel)) (fun _ _ _ _ _ => (pg_name (i := 4) scCorner.nd rfl (Or.inl rfl))) (fun _ _ _ _ _ => pts_nil) (fun _ _ _ _ _ => (pe_op (r := rCatA K) op_catA (pe_op (r := rRepA K) op_repA (pe_tup (pa_cons pe_int pa_nil)) (pe_fldK (K := K) rfl (pv 0) rfl)) (pv 4))))
      (pss_one (ps_ret (C8.pe_c cT hr (by decide) (by rfl) (pa_cons (pe_fld (pv 0) rfl) (pa_cons (pe_op op_add (pe_fld (pv 0) rfl) (pe_fld (pv 1) rfl)) (pa_cons (pe_callTy call_tuple_of (by rfl) T.tup (by decide +kernel) (pa_cons (pe_op op_cat (pv 2) (pv 3)) pa_nil)) pa_nil)))))))), ?_⟩
    refine ⟨_, rfl, p, CT, dx1, _, _, rfl, t1, D.cl, D.n1, tf_prime .., _, rfl, q, CT, dx2, _, _, rfl, t2, D.cl, D.n1, tf_prime .., rfl, _, rfl, ?_⟩
    refine ite2 (fun z => ?_) (fun _ => ?_)
    · rw [decide_eq_true rfl] at z
      cases z
    refine ⟨_, rfl, p, CT, dx1, _, _, rfl, t1, D.cl, D.n3, tf_rows .., b1, rfl, ⟨_, SqT.of hb1⟩, fun D1 nD1 => ?_⟩
    refine lc_gen (n := (rs1.map V.ref).length) (p := fun _ => true) walk_tup nD1 (by rw [List.length_map]; omega) (fun _ y S => ∃ r xs, y = V.ref r ∧ S r = some (.tup xs) ∧ xs.length ≤ M1 + M2) (fun _ _ _ _ t z => let ⟨r, xs, h1, h2, h3⟩ := z; ⟨r, xs, h1, t _ _ h2, h3⟩) (fun H' e => SqT.of (e _ _ hb1)) ?_ ?_
    · rintro j y J J' R N hj e7 ⟨rfl, hy⟩ hR hN
      obtain ⟨r, hr', rfl⟩ := ref_get hy
      obtain ⟨xs, hx, lx⟩ := r1 r (List.mem_of_getElem? hr')
      refine ⟨rfl, tyes_in ⟨_, rfl, by show 1 ≤ sizeLine; decide, fun e ne => ?_⟩⟩
      have x1 := Ext.upd (o := .tup [V.int 0]) ne
      refine ⟨_, rfl, q, CT, dx2, _, _, rfl, x1 _ _ (e7 _ _ t2), D.cl, D.n2, tf_wide .., e, w2, [V.int 0], rfl, rfl, upd_same, (fun z => nomatch z), u2, by omega, by show 1 ≤ 1000; decide, fun p' J2 x2 hp' => ?_⟩
      rw [rep1] at hp'
      have x12 := x1.trans x2
      refine cat_any (x12 _ _ (e7 _ _ hx)) hp' (by rw [List.length_replicate]; omega) fun p2 J3 x3 h3 => ?_
      exact hR rfl _ _ (x12.trans x3) ⟨p2, _, rfl, h3, by rw [List.length_append, List.length_replicate]; omega⟩
    intro ys1 J1 e1 hD1 pp1
    obtain ⟨as1, rfl, la1, ra1⟩ := rows_of pp1
    rw [List.filter_eq_self.mpr fun _ _ => rfl, List.length_range, List.length_map, l1] at la1
    refine ⟨_, rfl, q, CT, dx2, _, _, rfl, e1 _ _ t2, D.cl, D.n3, tf_rows .., b2, rfl, ⟨_, SqT.of (e1 _ _ hb2)⟩, fun D2 nD2 => ?_⟩
    refine lc_gen (n := (rs2.map V.ref).length) (p := fun _ => true) walk_tup nD2 (by rw [List.length_map]; omega) (fun _ y S => ∃ r xs, y = V.ref r ∧ S r = some (.tup xs) ∧ xs.length ≤ M1 + M2) (fun _ _ _ _ t z => let ⟨r, xs, h1, h2, h3⟩ := z; ⟨r, xs, h1, t _ _ h2, h3⟩) (fun H' e => SqT.of (e _ _ (e1 _ _ hb2))) ?_ ?_
    · rintro j y J J' R N hj e7 ⟨rfl, hy⟩ hR hN
      obtain ⟨r, hr', rfl⟩ := ref_get hy
      obtain ⟨xs, hx, lx⟩ := r2 r (List.mem_of_getElem? hr')
      have e17 := e1.trans e7
      refine ⟨rfl, tyes_in ⟨by show 1 ≤ sizeLine; decide, fun e ne => ?_⟩⟩
      have x1 := Ext.upd (o := .tup [V.int 0]) ne
      refine ⟨_, rfl, p, CT, dx1, _, _, rfl, x1 _ _ (e17 _ _ t1), D.cl, D.n2, tf_wide .., e, w1, [V.int 0], rfl, rfl, upd_same, (fun z => nomatch z), u1, by omega, by show 1 ≤ 1000; decide, fun p' J2 x2 hp' => ?_⟩
      rw [rep1] at hp'
      have x12 := x1.trans x2
      refine ⟨_, rfl, cat_any hp' (x12 _ _ (e17 _ _ hx)) (by rw [List.length_replicate]; omega) fun p2 J3 x3 h3 => ?_⟩
      exact hR rfl _ _ (x12.trans x3) ⟨p2, _, rfl, h3, by rw [List.length_append, List.length_replicate]; omega⟩
    intro ys2 J2 e2 hD2 pp2
    obtain ⟨as2, rfl, la2, ra2⟩ := rows_of pp2
    rw [List.filter_eq_self.mpr fun _ _ => rfl, List.length_range, List.length_map, l2] at la2
    have e12 := e1.trans e2
    refine ⟨_, rfl, p, CT, dx1, _, _, rfl, e12 _ _ t1, D.cl, D.n1, tf_prime .., _, rfl, p, CT, dx1, _, _, rfl, e12 _ _ t1, D.cl, D.n2, tf_wide .., _, rfl, q, CT, dx2, _, _, rfl, e12 _ _ t2, D.cl, D.n2, tf_wide .., _, _, rfl, rfl, ?_⟩
    refine ⟨_, rfl, _, rfl, D1, D2, _, _, rfl, rfl, e2 _ _ hD1, hD2, Nat.le_trans (show _ ≤ 1000 by rw [List.length_map, List.length_map]; omega) (by decide), fun l nl => ?_⟩
    refine ⟨l, _, rfl, .inl ⟨SqL.of upd_same, fun t nt => ?_⟩⟩
    have x3 := Ext.upd (o := .lst (as1.map V.ref ++ as2.map V.ref)) nl
    have x4 := Ext.upd (o := .tup (as1.map V.ref ++ as2.map V.ref)) nt
    have x34 := x3.trans x4
    refine ⟨t, pr, w1 + w2, _, rfl, hpr, .inl upd_same, fun r J5 e5 ta => ?_⟩
    have ee := x34.trans e5
    refine k r J5 (e12.trans ee) ⟨t, as1 ++ as2, ?_, ?_, by rw [List.length_append]; omega, fun z hz => ?_, by omega, by omega⟩
    · rw [List.length_append, List.length_map, List.length_map, la1, la2] at ta
      exact ta
    · rw [List.map_append]
      exact e5 _ _ upd_same
    · rcases List.mem_append.mp hz with q' | q'
      · obtain ⟨xs, h3, h4⟩ := ra1 z q'
        exact ⟨xs, ee _ _ (e2 _ _ h3), h4⟩
      · obtain ⟨xs, h3, h4⟩ := ra2 z q'
        exact ⟨xs, ee _ _ h3, h4⟩
end
end V44

set_option Elab.async false
set_option linter.all false
set_option maxRecDepth 100000
set_option maxHeartbeats 4000000
set_option pp.maxSteps 100
/-! enumerate over a text; text * int. -/
namespace V44
open PySem L2 PyProof.Rows
/-- the signs of a text, each in a new pair with its number -/
def ItEs (z : Str) : It where
  go := fun i _ => i < z.cps.size
  yld := fun i H v H' => ∃ (p : Addr) (c : Nat), v = .ref p ∧ H p = none ∧ H' = upd H p (.tup [.int (i : Nat), .str ⟨#[c]⟩]) ∧ z.cps[i]? = some c
  stop := fun i _ => z.cps.size = i
def esAt (z : Str) (t : Tok) (e it : Addr) (i : Nat) (h : Heap) : Prop := (∃ old, IsEnum h e it (i : Int) old) ∧ h.IsStrIter it (strIterType z) z t i ∧ e ≠ it
section
variable {X : Cx} {pins : List (Addr × Obj)} {σ : L2.St} {H : Hp} {s : Shared} {e it : Addr}
theorem es_walk (z : Str) (t : Tok) (hc : X.calm = true) (I : Inv X pins σ H s) (hne : e ≠ it) :
    WalksT X.prog X.w X.A e (e :: [it]) [e, it] z.cps.size (fun i vals => ∃ u x, (∃ c v, z.cps[i]? = some c ∧ x = .str ⟨#[c]⟩ v) ∧ vals = #[.int i u, x])
      (fun i h => (∃ old, IsEnum h e it i old) ∧ h.IsStrIter it (strIterType z) z t i) (fun i T h => (∃ x, IsEnumOut h e it ((i : Int) + 1) x T) ∧ h.IsStrIter it (strIterType z) z t (i + 1) ∧ T ≠ e ∧ T ≠ it) :=
  WalksT.enumerateD (Draws.text (A := X.A.in1) (I.ok.hd hc) it z t) e hne (fun q => hne (List.mem_singleton.mp q)) (by simp)
end
theorem es_turn {P : Program} {w : World} {K : PySem.W.Frag} {elts : List Expr} {kk : Nat} {tpos : Pos} (z : Str) (t : Tok) (e it : Addr) : Turn P w K (.Tuple elts kk tpos) (ItEs z) [e, it] e (esAt z t e it) := by
  refine ⟨by simp, fun i h st b hb => ?_, fun i h h' st k => ⟨?_, ?_, st.2.2⟩, ?_, ?_, fun A i s Q E st q => ?_⟩
  · rcases st with ⟨⟨old, en⟩, ⟨ob, there, _, dt⟩, _⟩
    rcases List.mem_cons.mp hb with z | z
    · subst z
      exact ⟨_, en, fun v q => by cases q⟩
    · rw [List.mem_singleton.mp z]
      exact ⟨ob, there, fun v q => by rw [dt] at q; cases q⟩
  · exact st.1.imp fun old en => k e (by simp) _ en
  · obtain ⟨o, ho, r⟩ := st.2.1
    exact ⟨o, k it (by simp) o ho, r⟩
  · intro X eP eW eK hc i pins s σ H E I hf st go
    subst eP eW eK
    have W := es_walk z t hc I st.2.2
    refine W.item i s _ E go ⟨st.1, st.2.1⟩ fun T vals h1 tk pt big hT mid keep1 => ⟨_, rfl, ?_⟩
    obtain ⟨u, y, ⟨c, v, hcx, rfl⟩, rfl⟩ := pt
    refine W.go elts kk tpos i T { s with heap := h1, toks := tk } _ E mid fun h2 st2 keep2 => ?_
    have nT : T ∉ [e, it] := W.apart i T h1 mid
    have hT2 : h2.IsTuple T #[.int (i : Nat) u, .str ⟨#[c]⟩ v] := hT.at fun ob z => keep2 T ob nT z
    have J : Inv X pins σ (upd H T (.tup [.int (i : Nat), .str ⟨#[c]⟩])) { s with heap := h2, toks := tk } :=
      I.turnedNew (ch := [e, it]) (fun b ob hb z => keep2 b ob hb (keep1 b ob hb z)) hf big ⟨by show 2 ≤ sizeLine; decide, [.int i u, .str ⟨#[c]⟩ v], .cons ⟨_, rfl⟩ (.cons ⟨_, rfl⟩ .nil), hT2⟩
    refine ⟨.ref T, _, J, rfl, ⟨T, c, rfl, I.hok.fresh big, rfl, hcx⟩, ⟨st2.1, st2.2, st.2.2⟩, fun b hb => ?_⟩
    have nb : b ≠ T := fun z => nT (by rw [← z]; exact hb)
    rw [upd_ne nb]
    exact (hf b hb).1
  · intro X eP eW eK hc i pins s σ H E I hf st stop
    subst eP eW eK
    have W := es_walk z t hc I st.2.2
    have stop' : z.cps.size = i := stop
    subst stop'
    refine W.done s _ E ⟨st.1, st.2.1⟩ fun h1 tk keep => ⟨rfl, ?_⟩
    exact I.turnedL (ch := [e, it]) keep hf
  · exact wpAny_pyIter_enum st.1.choose_spec q
def iEs (ta : TA) : TI := fun σ H R => ta σ H fun vs H1 => ∃ z : Str, vs = [.str z] ∧ R (ItEs z) H1
/-- for .., .. in enumerate(a text) -/
theorem pi_es {X : Cx} {e : Expr} {ta : TA} {p pos tpos : Pos} {elts : List Expr} {kk : Nat} (hg : Gl X "enumerate") (hm : X.mg "enumerate" = none) (ha : PA X [e] ta) (hs : starEach [e] X.env = [(false, eval e X.env)] := by rfl) :
    PI X (.Tuple elts kk tpos) (.Call (.Name "enumerate" p) [e] [] pos) (iEs ta) := by
  constructor
  intro pins s σ H R I h
  refine Call_ (ld_blt I hg hm boot_enumerate (PyProof.Rows.callWith_type1 (thn (ha.run pos pins s σ H _ I h) ?_) hs rfl))
  rintro us s1 ⟨vs, H1, I1, r, z, rfl, q⟩
  match us, r with
  | [u], .cons ru .nil =>
    obtain ⟨t, rfl⟩ : ∃ t, u = Value.str z t := ru
    refine call_enumerate_str fun h1 en ti big keep => wpAny_pyIter_enum en ?_
    refine ⟨_, [s1.heap.objs.size + 1, s1.heap.objs.size], _, _, H1, rfl, I1.kept (t' := s1.toks) keep, es_turn z t _ _, ⟨⟨.none, en⟩, ti, Nat.succ_ne_self _⟩, fun b hb => ?_, q⟩
    have big : s1.heap.objs.size ≤ b := by
      rcases List.mem_cons.mp hb with z | z
      · rw [z]; exact Nat.le_succ _
      · rw [List.mem_singleton.mp z]; exact Nat.le_refl _
    exact I1.fpOk big (I1.hok.fresh big)
theorem walk_es {z : Str} : Walk (ItEs z) z.cps.size (fun _ => True) (fun i H v H' => ∃ (p : Addr) (c : Nat), v = .ref p ∧ H p = none ∧ H' = upd H p (.tup [.int (i : Nat), .str ⟨#[c]⟩]) ∧ z.cps[i]? = some c) :=
  ⟨fun _ _ hi _ => hi, fun _ _ => rfl, fun _ _ _ _ _ _ y => y⟩
/-- a text of one sign times an int -/
def signs (c : Nat) (k : Nat) : Str := ⟨(List.replicate k c).toArray⟩
def rRepS : R2 := fun x y H Q => ∃ (c : Nat) (k : Int), x = .str ⟨#[c]⟩ ∧ y = .int k ∧ 0 ≤ k ∧ k ≤ 1000 ∧ Q (.str (signs c k.toNat)) H
theorem signs_fold (c : Nat) : ∀ (k : Nat) (acc : Array Nat), (List.replicate k #[c]).foldl (· ++ ·) acc = acc ++ (List.replicate k c).toArray
  | 0, acc => by simp
  | k + 1, acc => by
    rw [List.replicate_succ, List.foldl_cons, signs_fold c k, List.replicate_succ]
    apply Array.ext'
    simp
theorem op_repS {X : Cx} : OpR X (binaryOp .Mult) rRepS := by
  intro pins s σ H x y v u Q I rx ry h
  obtain ⟨c, k, rfl, rfl, k0, k1, q⟩ := h
  obtain ⟨t, rfl⟩ := rx
  obtain ⟨t2, rfl⟩ := ry
  have l1 : Str.length ⟨#[c]⟩ = 1 := rfl
  refine PySem.P.mul_str (by rw [decide_eq_false (by omega), decide_eq_false (by omega)] <;> rfl) (fun _ _ => ?_) (fun _ _ => ?_) ?_
  · rw [l1]
    have : (1 : Int) ≤ (2 ^ 63 - 1) / k := Int.le_ediv_of_mul_le (by omega) (by omega)
    omega
  · rw [l1]
    unfold Builtin.Str.tooLong
    exact decide_eq_false (by rw [sizeLine_eq]; omega)
  · have fin : ∀ (st : Shared) (u : Tok) (z : Str), Inv X pins σ H st → z = signs c k.toNat → EP X pins σ Q (.str z u) st := fun st u z J e => ⟨.str z, H, J, ⟨u, rfl⟩, by rw [e]; exact q⟩
    split
    · rename_i h1
      have e0 : k.toNat = 0 := by omega
      refine ⟨Nat.zero_le _, ?_⟩
      show EP X pins σ Q (.str Str.empty s.toks) { s with toks := s.toks + 1 }
      exact fin _ _ _ (I.tok _) (by rw [e0]; rfl)
    · split
      · rename_i h1 h2
        have k1 : k = 1 := by
          rw [l1] at h2
          simpa using h2
        subst k1
        exact fin _ _ _ I rfl
      · have e1 : (⟨(List.replicate k.toNat #[c]).foldl (· ++ ·) #[]⟩ : Str) = signs c k.toNat := by
          rw [signs_fold]
          simp [signs]
        show ((⟨(List.replicate k.toNat #[c]).foldl (· ++ ·) #[]⟩ : Str).length ≤ sizeLine) ∧ EP X pins σ Q (.str ⟨(List.replicate k.toNat #[c]).foldl (· ++ ·) #[]⟩ s.toks) { s with toks := s.toks + 1 }
        rw [e1]
        refine ⟨?_, fin _ _ _ (I.tok _) rfl⟩
        have : (signs c k.toNat).length = k.toNat := by simp [signs, Str.length]
        rw [this, sizeLine_eq]
        omega
end V44

set_option Elab.async false
set_option linter.all false
set_option maxRecDepth 100000
set_option maxHeartbeats 4000000
set_option pp.maxSteps 100
/-! Webs that are lines. -/
namespace V44
open PySem L2
abbrev sWebI : Stmt := inClass (top 36) 0
abbrev sArrow : Stmt := top 37
abbrev sLine : Stmt := top 38
structure WebD (K : PySem.W.Frag) (mg : Str → Option Value) (CW : Addr) : Prop where
  cl : Cls K CW
  n1 : NoAttr K CW "many"
  n2 : NoAttr K CW "arrows"
  mgC : mg "Web" = some (.ref CW)
  mp : ∃ t, mg "MOST_PLACES" = some (.int 8 t)
  ma : ∃ t, mg "MOST_ARROWS" = some (.int 12 t)
  ms : ∃ t, mg "MOST_SIGNS" = some (.int 7 t)
def wf (n : Int) (b : Addr) : List (Str × V) := [("many", .int n), ("arrows", .ref b)]
theorem wf_many (n : Int) (b : Addr) : (wf n b).lookup ("many" : Str) = some (.int n) := by rfl
theorem wf_arrows (n : Int) (b : Addr) : (wf n b).lookup ("arrows" : Str) = some (.ref b) := by rfl
/-- arrows of a line of n places -/
def LineA (H : Hp) (b : Addr) (n : Nat) : Prop := ∃ as : List Addr, H b = some (.tup (as.map V.ref)) ∧ as.length = n - 1 ∧ ∀ (i : Nat) (a : Addr), as[i]? = some a → H a = some (.tup [.int (i : Int), .int ((i : Int) + 1)])
def LineW (CW : Addr) (H : Hp) (p : Addr) (n : Nat) : Prop := ∃ dx b, H p = some (.ins CW dx (wf (n : Int) b)) ∧ LineA H b n
theorem LineA.ext {H H' : Hp} {b : Addr} {n : Nat} (e : Ext H H') (h : LineA H b n) : LineA H' b n := let ⟨as, h1, h2, h3⟩ := h; ⟨as, e _ _ h1, h2, fun i a z => e _ _ (h3 i a z)⟩
theorem LineW.ext {CW : Addr} {H H' : Hp} {p : Addr} {n : Nat} (e : Ext H H') (h : LineW CW H p n) : LineW CW H' p n := let ⟨dx, b, h1, h2⟩ := h; ⟨dx, b, e _ _ h1, h2.ext e⟩
def spArrow : Sp := fun vs H Q _ => ∃ (m i j : Int) (a : Addr), vs = [.int m, .ref a] ∧ H a = some (.tup [.int i, .int j]) ∧ 0 ≤ i ∧ i < m ∧ 0 ≤ j ∧ j < m ∧ ∀ H', Ext H H' → Q (.bl true) H'
def spWeb (CW : Addr) : Sp := fun vs H Q _ => ∃ (p dx b : Addr) (n : Nat), vs = [.ref p, .int (n : Int), .ref b] ∧ 1 ≤ n ∧ n ≤ 8 ∧ H p = some (.ins CW dx []) ∧ LineA H b n ∧ ∀ H' : Hp, H' p = some (.ins CW dx (wf (n : Int) b)) → (∀ c o, c ≠ p → H c = some o → H' c = some o) → Q .non H'
def spLine (CW : Addr) : Sp := fun vs H Q _ => ∃ n : Nat, vs = [.str (signs 62 n)] ∧ n ≤ 7 ∧ ∀ (p : Addr) (H' : Hp), Ext H H' → LineW CW H' p (n + 1) → Q (.ref p) H'
theorem signs_get {c k i d : Nat} (h : (signs c k).cps[i]? = some d) : d = c := by
  unfold signs at h
  simp only [List.getElem?_toArray] at h
  exact List.eq_of_mem_replicate (List.mem_of_getElem? h)
theorem signs_size (c k : Nat) : (signs c k).cps.size = k := by simp [signs]
section
variable {P : Program} {w : World} {K : PySem.W.Frag} {mg : Str → Option Value} {base : Heap}
abbrev arrowN : List Str := ["many", "thing", "place"]
theorem scArrow : FnScope arrowN ["many", "thing"] (defScope sArrow) := ⟨rfl, rfl, rfl, by decide +kernel, rfl, by decide +kernel, by decide +kernel⟩
theorem ok_arrow {f : Addr} {fd : FuncData} (F : L2.Fun K "is_arrow" "is_arrow" sArrow f fd) (T : Gb mg) (cN : Cal P w K mg base 2 "is_number" (spNumber K) []) : FnOk P w K mg base CX0 3 f fd ["many", "thing"] spArrow := by
  refine F.ok scArrow (fun vs H Q E h => ?_) (fun cdv A outer s H vs Q E hr h => ?_)
  · obtain ⟨m, i, j, a, rfl, _⟩ := h
    rfl
  · obtain ⟨m, i, j, a, rfl, ha, i0, im, j0, jm, k⟩ := h
    refine ⟨_, pss_cons (ps_if (PW.pt (pw_or (pt_not (pt_val (pe_callB call_isi (by rfl) T.isi (by decide +kernel) (pa_cons (pv 1) (pa_cons (pe_bltn (v := .ty "tuple") (by rfl) T.tup (by decide +kernel) rfl) pa_nil))))) (pw_or1 (pt_cmpR op_ne (pe_callB call_len_seq (by rfl) T.len PySem.boot_len (pa_cons (pv 1) pa_nil)) pe_int (nomark _))))) (pss_one (ps_ret pe_bl)) pss_nil)
      (pss_one (ps_ret (pe_callB (cr_all rfl) (by rfl) T.all (by decide +kernel) (pa_cons (pe_lc (own := [("place", 2)]) (g := gName 2) (tt := tYes) rfl scArrow.nd (pi_tup (pv 1)) (blkOk_by (N := arrowN) (sc := defScope sArrow) (by decide +kernel)) (fun _ _ _ _ _ => (pg_name (i := 2) scArrow.nd rfl (Or.inl rfl))) (fun _ _ _ _ _ => pts_nil) (fun _ _ _ _ _ => (C8.pe_c cN hr (by decide) (by rfl) (pa_cons (pe_op op_sub (pv 0) pe_int) (pa_cons (pv 2) pa_nil))))) pa_nil)))), ?_⟩
    refine ⟨_, rfl, _, .ty "tuple", .type "tuple", .type "tuple", true, rfl, .ty _, ty_rd (.inl ha), kit_ty (by decide +kernel), _, rfl, ?_⟩
    refine iteF ⟨_, rfl, a, _, rfl, .inr (SqT.of ha), rfl, _, rfl, iteF ?_⟩
    refine ⟨_, rfl, a, rfl, ⟨_, SqT.of ha⟩, fun D nD => ?_⟩
    refine lc_gen (n := ([V.int i, .int j]).length) (p := fun _ => true) walk_tup nD (by show 2 ≤ 1000; decide) (fun _ y _ => y = V.bl true) (fun _ _ _ _ _ z => z) (fun H' e => SqT.of (e _ _ ha)) ?_ ?_
    · rintro t y J J' R N ht e7 ⟨rfl, hy⟩ hR hN
      have mem := List.mem_of_getElem? hy
      simp only [List.mem_cons, List.not_mem_nil, or_false] at mem
      have hv : ∃ v : Int, y = .int v ∧ 0 ≤ v ∧ v < m := by
        rcases mem with rfl | rfl
        · exact ⟨i, rfl, i0, im⟩
        · exact ⟨j, rfl, j0, jm⟩
      obtain ⟨v, rfl, v0, vm⟩ := hv
      refine ⟨rfl, tyes_in ⟨_, rfl, _, _, rfl, rfl, _, rfl, m - 1, .int v, rfl, Th.int v, ?_⟩⟩
      rw [numV_true.mpr ⟨v, rfl, v0, by omega⟩]
      exact hR rfl _ _ Ext.rfl' rfl
    intro ys J e7 hD pp
    have ey := flags_of (t := fun _ => true) pp
    subst ey
    refine ⟨D, _, rfl, SqL.of hD, ?_⟩
    rw [all_true]
    exact k _ e7
abbrev webN : List Str := ["self", "many", "arrows", "at", "arrow"]
theorem scWebI : FnScope webN ["self", "many", "arrows"] (defScope sWebI) := ⟨rfl, rfl, rfl, by decide +kernel, rfl, by decide +kernel, by decide +kernel⟩
theorem ok_web {f CW : Addr} {fd : FuncData} (F : L2.Fun K "__init__" "Web.__init__" sWebI f fd) (T : Gb mg) (D : WebD K mg CW) (cN : Cal P w K mg base 2 "is_number" (spNumber K) []) (cA : Cal P w K mg base 3 "is_arrow" spArrow []) : FnOk P w K mg base CX0 4 f fd ["self", "many", "arrows"] (spWeb CW) := by
  obtain ⟨t8, h8⟩ := D.mp
  obtain ⟨t12, h12⟩ := D.ma
  refine F.ok scWebI (fun vs H Q E h => ?_) (fun cdv A outer s H vs Q E hr h => ?_)
  · obtain ⟨p, dx, b, n, rfl, _⟩ := h
    rfl
  · obtain ⟨p, dx, b, n, rfl, n1, n8, hp, ⟨as, hb, la, ga⟩, k⟩ := h
    refine ⟨_, pss_cons (ps_if (PW.pt (pw_or (pt_not (pt_val (C8.pe_c cN hr (by decide) (by rfl) (pa_cons (pe_glob (v := .int 8) rfl h8 ⟨_, rfl⟩) (pa_cons (pv 1) pa_nil))))) (pw_or1 (pt_cmpR op_eq (pv 1) pe_int (nomark _))))) (pss_one ps_never) pss_nil)
      (pss_cons (ps_if (PW.pt (pw_or (pt_not (pt_val (pe_callB call_isi (by rfl) T.isi (by decide +kernel) (pa_cons (pv 2) (pa_cons (pe_bltn (v := .ty "tuple") (by rfl) T.tup (by decide +kernel) rfl) pa_nil))))) (pw_or1 (pt_cmpR op_gt (pe_callB call_len_seq (by rfl) T.len PySem.boot_len (pa_cons (pv 2) pa_nil)) (pe_glob (v := .int 12) rfl h12 ⟨_, rfl⟩) (nomark _))))) (pss_one ps_never) pss_nil)
      (pss_cons (ps_for PassesOwn.never rfl (pi_en (by rfl) T.enum (pa_cons (pv 2) pa_nil)) (pg_tup rfl (pgs_cons (pg_name (i := 3) scWebI.nd rfl (Or.inl rfl)) (pgs_cons (pg_name (i := 4) scWebI.nd rfl (Or.inl rfl)) pgs_nil)))
      (pss_one (ps_if (pt_not (pt_val (C8.pe_c cA hr (by decide) (by rfl) (pa_cons (pv 1) (pa_cons (pv 4) pa_nil))))) (pss_one ps_never) pss_nil)))
      (pss_cons (ps_fld (pv 0) (pv 1) rfl)
      (pss_one (ps_fld (pv 0) (pv 2) rfl))))), ?_⟩
    refine ⟨_, rfl, 8, .int (n : Int), rfl, Th.int _, _, rfl, ?_⟩
    rw [numV_true.mpr ⟨(n : Int), rfl, by omega, by omega⟩]
    refine iteF ⟨_, rfl, rfl, _, rfl, ?_⟩
    refine ite2 (fun z => ?_) (fun _ => ?_)
    · have := of_decide_eq_true z
      injection this with this
      omega
    refine ⟨_, rfl, _, .ty "tuple", .type "tuple", .type "tuple", true, rfl, .ty _, ty_rd (.inl hb), kit_ty (by decide +kernel), _, rfl, ?_⟩
    refine iteF ⟨_, rfl, b, _, rfl, .inr (SqT.of hb), _, _, rfl, rfl, _, rfl, ?_⟩
    refine ite2 (fun z => ?_) (fun _ => ?_)
    · have := of_decide_eq_true z
      rw [List.length_map] at this
      omega
    refine ⟨_, rfl, b, _, rfl, .inl hb, for_en (a := b) (xs := as.map V.ref) (fun i σ' J => (∃ u v, σ' = [some (.ref p), some (.int (n : Int)), some (.ref b), u, v]) ∧ Ext H J) ⟨⟨_, _, rfl⟩, Ext.rfl'⟩ (fun i σ' J h => .inl (h.2 _ _ hb)) ?_ ?_⟩
    · rintro i z σ' J q hz ⟨⟨u, v, rfl⟩, e2⟩ nq
      obtain ⟨a, ha, rfl⟩ := ref_get hz
      have li := (List.getElem?_eq_some_iff.mp ha).1
      have e3 : Ext H (upd J q (.tup [.int (i : Nat), .ref a])) := e2.trans (Ext.upd nq)
      refine ⟨q, _, rfl, SqT.of upd_same, rfl, _, _, rfl, _, _, rfl, rfl, ?_⟩
      refine ⟨_, rfl, _, rfl, (n : Int), (i : Int), (i : Int) + 1, a, rfl, e3 _ _ (ga i a ha), by omega, by omega, by omega, by omega, fun J2 x2 => ⟨_, rfl, iteF ⟨⟨_, _, rfl⟩, e3.trans x2⟩⟩⟩
    · rintro σ' J ⟨⟨u, v, rfl⟩, e2⟩
      refine ⟨_, rfl, _, rfl, p, CW, dx, [], rfl, e2 _ _ hp, D.cl, D.n1, (by show 0 < 1000; decide), ?_⟩
      refine ⟨_, rfl, _, rfl, p, CW, dx, _, rfl, upd_same, D.cl, D.n2, (by show 1 < 1000; decide), ?_⟩
      exact k _ upd_same fun c o nc h => by rw [upd_ne nc, upd_ne nc]; exact e2 _ _ h
abbrev lineN : List Str := ["word", "arrows", "at", "sign"]
theorem scLine : FnScope lineN ["word"] (defScope sLine) := ⟨rfl, rfl, rfl, by decide +kernel, rfl, by decide +kernel, by decide +kernel⟩
theorem ok_line {f fW CW : Addr} {fd fdW : FuncData} (F : L2.Fun K "line" "line" sLine f fd) (T : Gb mg) (D : WebD K mg CW) (MW : Mk K CW fW) (FW : FnOk P w K mg base CX0 4 fW fdW ["self", "many", "arrows"] (spWeb CW)) (bW : Binds K fdW ["self", "many", "arrows"] []) : FnOk P w K mg base CX0 6 f fd ["word"] (spLine CW) := by
  obtain ⟨t7, h7⟩ := D.ms
  refine F.ok scLine (fun vs H Q E h => ?_) (fun cdv A outer s H vs Q E hr h => ?_)
  · obtain ⟨n, rfl, _⟩ := h
    rfl
  · obtain ⟨n, rfl, n7, k⟩ := h
    have ls : (signs 62 n).length = n := signs_size 62 n
    refine ⟨_, pss_cons (ps_if (PW.pt (pw_or (pt_not (pt_val (pe_callB call_isi (by rfl) T.isi (by decide +kernel) (pa_cons (pv 0) (pa_cons (pe_bltn (v := .ty "str") (by rfl) T.str (by decide +kernel) rfl) pa_nil))))) (pw_or1 (pt_cmpR op_gt (pe_callB call_len_str (by rfl) T.len PySem.boot_len (pa_cons (pv 0) pa_nil)) (pe_glob (v := .int 7) rfl h7 ⟨_, rfl⟩) (nomark _))))) (pss_one ps_never) pss_nil)
      (pss_cons (ps_set (i := 1) scLine.nd rfl (Or.inl rfl) (pe_lst pa_nil))
      (pss_cons (ps_for PassesOwn.never rfl (pi_es (by rfl) T.enum (pa_cons (pv 0) pa_nil)) (pg_tup rfl (pgs_cons (pg_name (i := 2) scLine.nd rfl (Or.inl rfl)) (pgs_cons (pg_name (i := 3) scLine.nd rfl (Or.inl rfl)) pgs_nil)))
      (pss_one (ps_if (pt_cmpR op_eq (pv 3) pe_str (nomark _)) (pss_one (ps_expr (pe_bm PySem.F.plainAttrs_list PySem.F.slot_list_append PySem.F.type_list_append mt_append (pv 1) (pa_cons (pe_tup (pa_cons (pv 2) (pa_cons (pe_op op_add (pv 2) pe_int) pa_nil))) pa_nil)))) (pss_one (ps_if (pt_cmpR op_eq (pv 3) pe_str (nomark _)) (pss_one (ps_expr (pe_bm PySem.F.plainAttrs_list PySem.F.slot_list_append PySem.F.type_list_append mt_append (pv 1) (pa_cons (pe_tup (pa_cons (pe_op op_add (pv 2) pe_int) (pa_cons (pv 2) pa_nil))) pa_nil)))) (pss_one ps_never))))))
      (pss_one (ps_ret (pe_make MW FW hr (by rfl) D.mgC bW .nil pass0 (pa_cons (pe_op op_add (pe_callB call_len_str (by rfl) T.len PySem.boot_len (pa_cons (pv 0) pa_nil)) pe_int) (pa_cons (pe_callTy call_tuple_of (by rfl) T.tup (by decide +kernel) (pa_cons (pv 1) pa_nil)) pa_nil))))))), ?_⟩
    refine ⟨_, rfl, _, .ty "str", .type "str", .type "str", true, rfl, .ty _, .base (.str _), kit_ty (by decide +kernel), _, rfl, ?_⟩
    refine iteF ⟨_, rfl, _, rfl, by rw [ls, sizeLine_eq]; omega, _, _, rfl, rfl, _, rfl, ?_⟩
    refine ite2 (fun z => ?_) (fun _ => ?_)
    · have := of_decide_eq_true z
      rw [ls] at this
      omega
    refine ⟨Nat.zero_le _, fun l nl => ?_⟩
    have x1 := Ext.upd (o := .lst []) nl
    refine ⟨_, rfl, _, rfl, ?_⟩
    refine for_it walk_es (fun i σ' J => ∃ (v2 v3 : Option V) (as : List Addr), σ' = [some (.str (signs 62 n)), some (.ref l), v2, v3] ∧ Ext H J ∧ J l = some (.lst (as.map V.ref)) ∧ as.length = i ∧ ∀ (j : Nat) (a : Addr), as[j]? = some a → J a = some (.tup [.int (j : Int), .int ((j : Int) + 1)]))
      ⟨_, _, [], rfl, x1, upd_same, rfl, fun j a h => by simp at h⟩ (fun _ _ _ _ _ => True.intro) ?_ ?_
    · rintro i z σ' J J' hi ⟨v2, v3, as, rfl, e, hl, la, ga⟩ ⟨q, c, rfl, nq, rfl, hc⟩
      have ec := signs_get hc
      subst ec
      refine ⟨q, _, rfl, SqT.of upd_same, rfl, _, _, rfl, _, _, rfl, rfl, ?_⟩
      have xq := Ext.upd (o := .tup [V.int (i : Nat), .str ⟨#[62]⟩]) nq
      refine ⟨_, rfl, rfl, _, rfl, ?_⟩
      refine ite2 (fun _ => ?_) (fun z => absurd (by decide) z)
      refine ⟨_, rfl, .inl ⟨rfl, _, SqL.of (xq _ _ hl)⟩, _, rfl, _, rfl, _, _, rfl, rfl, by show 2 ≤ sizeLine; decide, fun t nt => ?_⟩
      have xt := Ext.upd (o := .tup [V.int (i : Nat), .int ((i : Nat) + 1)]) nt
      have hl2 := xt _ _ (xq _ _ hl)
      refine ⟨l, _, _, rfl, rfl, hl2, small1000 (by rw [List.length_map]; rw [signs_size] at hi; omega), ?_⟩
      have nHl : H l = Option.none := nl
      have keep : ∀ {b : Addr} {xs : List V} {J2 : Hp} {o : HO}, J2 l = some (.lst (as.map V.ref)) → J2 b = some (.tup xs) → (upd J2 l o) b = some (.tup xs) := fun {b xs J2 o} h g => by rw [upd_ne fun z => by rw [z, h] at g; cases g]; exact g
      refine ⟨_, _, as ++ [t], rfl, fun b o hb => ?_, by rw [upd_same, List.map_append]; rfl, by rw [List.length_append, la]; rfl, fun j a hj => ?_⟩
      · rw [upd_ne (ne_of_none hb nHl)]
        exact xt _ _ (xq _ _ (e _ _ hb))
      · by_cases lt : j < as.length
        · rw [List.getElem?_append_left lt] at hj
          exact keep hl2 (xt _ _ (xq _ _ (ga j a hj)))
        · have : j = as.length := by
            have := (List.getElem?_eq_some_iff.mp hj).1
            rw [List.length_append] at this
            simp at this
            omega
          subst this
          rw [List.getElem?_append_right (Nat.le_refl _), Nat.sub_self] at hj
          cases hj
          rw [la]
          exact keep hl2 upd_same
    · rintro σ' J ⟨v2, v3, as, rfl, e, hl, la, ga⟩
      rw [signs_size] at la
      refine ⟨_, rfl, _, rfl, by rw [ls, sizeLine_eq]; omega, _, _, rfl, rfl, _, rfl, l, _, rfl, .inl ⟨SqL.of hl, fun t nt => ?_⟩⟩
      have xt := Ext.upd (o := .tup (as.map V.ref)) nt
      intro p dx np ndx nd
      have x2 := Ext.upd (o := .own p) ndx
      have np1 : (upd (upd J t (.tup (as.map V.ref))) dx (.own p)) p = Option.none := by rw [upd_ne nd.symm]; exact np
      have x3 := Ext.upd (o := .ins CW dx []) np1
      have x23 := x2.trans x3
      refine ⟨p, dx, t, n + 1, by rw [ls]; rfl, by omega, by omega, upd_same, ⟨as, x23 _ _ upd_same, by omega, fun i a h => x23 _ _ (xt _ _ (ga i a h))⟩, fun H' hp kp => ⟨rfl, ?_⟩⟩
      have npt : (upd J t (.tup (as.map V.ref))) p = Option.none := np
      have e' : Ext (upd J t (.tup (as.map V.ref))) H' := fun c o h => kp c o (ne_of_none h npt) (x23 _ _ h)
      exact k p H' ((e.trans xt).trans e') ⟨dx, t, hp, as, e' _ _ upd_same, by omega, fun i a h => e' _ _ (xt _ _ (ga i a h))⟩
end
end V44

set_option Elab.async false
set_option linter.all false
set_option maxRecDepth 100000
set_option maxHeartbeats 4000000
set_option pp.maxSteps 100
/-! Pictures made. -/
namespace V44
open PySem L2
abbrev sIsTab : Stmt := top 29
abbrev sPicI : Stmt := inClass (top 41) 0
abbrev sSizes : Stmt := top 42
abbrev sPicOf : Stmt := top 43
structure PicD (K : PySem.W.Frag) (mg : Str → Option Value) (CP : Addr) : Prop where
  cl : Cls K CP
  n1 : NoAttr K CP "web"
  n2 : NoAttr K CP "prime"
  n3 : NoAttr K CP "sizes"
  n4 : NoAttr K CP "tables"
  mgC : mg "Picture" = some (.ref CP)
  mo : ∃ t, mg "MOST_SIZE" = some (.int 6 t)
def pf (wb : Addr) (pr : Int) (sz tb : Addr) : List (Str × V) := [("web", .ref wb), ("prime", .int pr), ("sizes", .ref sz), ("tables", .ref tb)]
theorem pf_sizes (wb : Addr) (pr : Int) (sz tb : Addr) : (pf wb pr sz tb).lookup ("sizes" : Str) = some (.ref sz) := by rfl
theorem pf_tables (wb : Addr) (pr : Int) (sz tb : Addr) : (pf wb pr sz tb).lookup ("tables" : Str) = some (.ref tb) := by rfl
def PicAt (CP : Addr) (H : Hp) (p wb : Addr) (pr : Int) (sz tb : Addr) : Prop := ∃ dx, H p = some (.ins CP dx (pf wb pr sz tb))
def spIsTab (CT : Addr) : Sp := fun vs H Q _ => ∃ (p b : Addr) (pr h wd : Int), vs = [.int pr, .int h, .int wd, .ref p] ∧ TabAt CT H p pr wd b h ∧ Q (.bl true) H
def spSizes (CW : Addr) : Sp := fun vs H Q _ => ∃ (wb sz : Addr) (n : Nat), vs = [.ref wb, .ref sz] ∧ LineW CW H wb n ∧ n ≤ 1000 ∧ H sz = some (.tup (List.replicate n (.int 0))) ∧ ∀ H', Ext H H' → Q (.bl true) H'
def spPic (CP CW CT : Addr) : Sp := fun vs H Q _ => ∃ (p dx wb sz tb e b : Addr) (pr : Int) (n : Nat), vs = [.ref p, .ref wb, .int pr, .ref sz, .ref tb] ∧ H p = some (.ins CP dx []) ∧ LineW CW H wb n ∧ 1 ≤ n ∧ n ≤ 8 ∧ Pr pr ∧ H sz = some (.tup (List.replicate n (.int 0))) ∧ H tb = some (.tup (List.replicate (n - 1) (.ref e))) ∧ TabAt CT H e pr 0 b 0 ∧
  ∀ H' : Hp, H' p = some (.ins CP dx (pf wb pr sz tb)) → (∀ c o, c ≠ p → H c = some o → H' c = some o) → Q .non H'
def spPicOf (CP CW : Addr) : Sp := fun vs H Q _ => ∃ (wb sz tb : Addr) (pr : Int) (n : Nat), vs = [.ref wb, .int pr, .ref sz, .ref tb] ∧ LineW CW H wb n ∧ 1 ≤ n ∧ n ≤ 8 ∧ Pr pr ∧ ∀ (p : Addr) (H' : Hp), Ext H H' → PicAt CP H' p wb pr sz tb → Q (.ref p) H'
section
variable {P : Program} {w : World} {K : PySem.W.Frag} {mg : Str → Option Value} {base : Heap}
theorem scIsTab : FnScope ["prime", "high", "wide", "thing"] ["prime", "high", "wide", "thing"] (defScope sIsTab) := ⟨rfl, rfl, rfl, by decide +kernel, rfl, by decide +kernel, by decide +kernel⟩
theorem ok_isTab {f CT : Addr} {fd : FuncData} (F : L2.Fun K "is_table" "is_table" sIsTab f fd) (T : Gb mg) (D : TabD K mg CT) (I : IsC K CT) : FnOk P w K mg base CX0 1 f fd ["prime", "high", "wide", "thing"] (spIsTab CT) := by
  refine F.ok scIsTab (fun vs H Q E h => ?_) (fun cdv A outer s H vs Q E hr h => ?_)
  · obtain ⟨p, b, pr, h, wd, rfl, _⟩ := h
    rfl
  · obtain ⟨p, b, pr, h, wd, rfl, ⟨dx, hp⟩, k⟩ := h
    refine ⟨_, pss_cons (ps_if (PW.pt (pw_or (pt_not (pt_val (pe_callB call_isi (by rfl) T.isi (by decide +kernel) (pa_cons (pv 3) (pa_cons (pe_glob (v := .ref CT) rfl D.mgC rfl) pa_nil))))) (pw_or1 (pt_cmpR op_ne (pe_fld (pv 3) rfl) (pv 0) (nomark _))))) (pss_one (ps_ret pe_bl)) pss_nil)
      (pss_one (ps_ret (pe_and (pe_cmpR op_eq (pe_fld (pv 3) rfl) (pv 1) (nomark _)) (pe_one (pe_cmpR op_eq (pe_fld (pv 3) rfl) (pv 2) (nomark _)))))), ?_⟩
    refine ⟨_, rfl, _, .ref CT, .ref CT, .ref CT, _, rfl, .own CT, I.ty hp, kit_same, _, rfl, ?_⟩
    refine iteF ⟨_, rfl, p, CT, dx, _, _, rfl, hp, D.cl, D.n1, tf_prime .., _, rfl, rfl, _, rfl, ?_⟩
    refine ite2 (fun z => ?_) (fun _ => ?_)
    · rw [decide_eq_true rfl] at z
      cases z
    refine ⟨_, rfl, p, CT, dx, _, _, rfl, hp, D.cl, D.n4, tf_high .., _, rfl, rfl, _, rfl, ?_⟩
    rw [decide_eq_true rfl]
    refine iteT ⟨_, rfl, p, CT, dx, _, _, rfl, hp, D.cl, D.n2, tf_wide .., _, rfl, rfl, ?_⟩
    rw [decide_eq_true rfl]
    exact k
abbrev sizesN : List Str := ["web", "thing", "size"]
theorem scSizes : FnScope sizesN ["web", "thing"] (defScope sSizes) := ⟨rfl, rfl, rfl, by decide +kernel, rfl, by decide +kernel, by decide +kernel⟩
theorem ok_sizes {f CW : Addr} {fd : FuncData} (F : L2.Fun K "is_sizes" "is_sizes" sSizes f fd) (T : Gb mg) (D : WebD K mg CW) (M6 : ∃ t, mg "MOST_SIZE" = some (.int 6 t)) (cN : Cal P w K mg base 2 "is_number" (spNumber K) []) : FnOk P w K mg base CX0 3 f fd ["web", "thing"] (spSizes CW) := by
  obtain ⟨t6, h6⟩ := M6
  refine F.ok scSizes (fun vs H Q E h => ?_) (fun cdv A outer s H vs Q E hr h => ?_)
  · obtain ⟨wb, sz, n, rfl, _⟩ := h
    rfl
  · obtain ⟨wb, sz, n, rfl, ⟨dx, b, hw, la⟩, n1000, hs, k⟩ := h
    refine ⟨_, pss_cons (ps_if (PW.pt (pw_or (pt_not (pt_val (pe_callB call_isi (by rfl) T.isi (by decide +kernel) (pa_cons (pv 1) (pa_cons (pe_bltn (v := .ty "tuple") (by rfl) T.tup (by decide +kernel) rfl) pa_nil))))) (pw_or1 (pt_cmpR op_ne (pe_callB call_len_seq (by rfl) T.len PySem.boot_len (pa_cons (pv 1) pa_nil)) (pe_fld (pv 0) rfl) (nomark _))))) (pss_one (ps_ret pe_bl)) pss_nil)
      (pss_one (ps_ret (pe_callB (cr_all rfl) (by rfl) T.all (by decide +kernel) (pa_cons (pe_lc (own := [("size", 2)]) (g := gName 2) (tt := tYes) rfl scSizes.nd (pi_tup (pv 1)) (blkOk_by (N := sizesN) (sc := defScope sSizes) (by decide +kernel)) (fun _ _ _ _ _ => (pg_name (i := 2) scSizes.nd rfl (Or.inl rfl))) (fun _ _ _ _ _ => pts_nil) (fun _ _ _ _ _ => (C8.pe_c cN hr (by decide) (by rfl) (pa_cons (pe_glob (v := .int 6) rfl h6 ⟨_, rfl⟩) (pa_cons (pv 2) pa_nil))))) pa_nil)))), ?_⟩
    refine ⟨_, rfl, _, .ty "tuple", .type "tuple", .type "tuple", true, rfl, .ty _, ty_rd (.inl hs), kit_ty (by decide +kernel), _, rfl, ?_⟩
    refine iteF ⟨_, rfl, sz, _, rfl, .inr (SqT.of hs), _, rfl, wb, CW, dx, _, _, rfl, hw, D.cl, D.n1, wf_many .., rfl, _, rfl, ?_⟩
    refine ite2 (fun z => ?_) (fun _ => ?_)
    · rw [List.length_replicate, decide_eq_true rfl] at z
      cases z
    refine ⟨_, rfl, sz, rfl, ⟨_, SqT.of hs⟩, fun D0 nD => ?_⟩
    refine lc_gen (n := (List.replicate n (V.int 0)).length) (p := fun _ => true) walk_tup nD (by rw [List.length_replicate]; exact n1000) (fun _ y _ => y = V.bl true) (fun _ _ _ _ _ z => z) (fun H' e => SqT.of (e _ _ hs)) ?_ ?_
    · rintro t y J J' R N ht e7 ⟨rfl, hy⟩ hR hN
      have ey := List.eq_of_mem_replicate (List.mem_of_getElem? hy)
      subst ey
      refine ⟨rfl, tyes_in ⟨_, rfl, 6, .int 0, rfl, Th.int 0, ?_⟩⟩
      exact hR rfl _ _ Ext.rfl' rfl
    intro ys J e7 hD pp
    have ey := flags_of (t := fun _ => true) pp
    subst ey
    refine ⟨D0, _, rfl, SqL.of hD, ?_⟩
    rw [all_true]
    exact k _ e7
abbrev picN : List Str := ["self", "web", "prime", "sizes", "tables", "at", "table", "begin", "end"]
theorem scPicI : FnScope picN ["self", "web", "prime", "sizes", "tables"] (defScope sPicI) := ⟨rfl, rfl, rfl, by decide +kernel, rfl, by decide +kernel, by decide +kernel⟩
theorem ok_pic {f CP CW CT : Addr} {fd : FuncData} (F : L2.Fun K "__init__" "Picture.__init__" sPicI f fd) (T : Gb mg) (D : PicD K mg CP) (DW : WebD K mg CW) (IW : IsC K CW) (cP : Cal P w K mg base 2 "is_prime" (spPrime K) []) (cS : Cal P w K mg base 3 "is_sizes" (spSizes CW) []) (cT : Cal P w K mg base 1 "is_table" (spIsTab CT) []) :
    FnOk P w K mg base CX0 4 f fd ["self", "web", "prime", "sizes", "tables"] (spPic CP CW CT) := by
  refine F.ok scPicI (fun vs H Q E h => ?_) (fun cdv A outer s H vs Q E hr h => ?_)
  · obtain ⟨p, dx, wb, sz, tb, e, b, pr, n, rfl, _⟩ := h
    rfl
  · obtain ⟨p, dx, wb, sz, tb, e, b, pr, n, rfl, hp, lw, n1, n8, hpr, hs, ht, te, k⟩ := h
    obtain ⟨dw, ab, hw, as, hab, la, ga⟩ := id lw
    refine ⟨_, pss_cons (ps_if (pt_not (pt_val (pe_callB call_isi (by rfl) T.isi (by decide +kernel) (pa_cons (pv 1) (pa_cons (pe_glob (v := .ref CW) rfl DW.mgC rfl) pa_nil))))) (pss_one ps_never) pss_nil)
      (pss_cons (ps_if (pt_not (pt_val (C8.pe_c cP hr (by decide) (by rfl) (pa_cons (pv 2) pa_nil)))) (pss_one ps_never) pss_nil)
      (pss_cons (ps_if (pt_not (pt_val (C8.pe_c cS hr (by decide) (by rfl) (pa_cons (pv 1) (pa_cons (pv 3) pa_nil))))) (pss_one ps_never) pss_nil)
      (pss_cons (ps_if (PW.pt (pw_or (pt_not (pt_val (pe_callB call_isi (by rfl) T.isi (by decide +kernel) (pa_cons (pv 4) (pa_cons (pe_bltn (v := .ty "tuple") (by rfl) T.tup (by decide +kernel) rfl) pa_nil))))) (pw_or1 (pt_cmpR op_ne (pe_callB call_len_seq (by rfl) T.len PySem.boot_len (pa_cons (pv 4) pa_nil)) (pe_callB call_len_seq (by rfl) T.len PySem.boot_len (pa_cons (pe_fld (pv 1) rfl) pa_nil)) (nomark _))))) (pss_one ps_never) pss_nil)
      (pss_cons (ps_for PassesOwn.never rfl (pi_en (by rfl) T.enum (pa_cons (pv 4) pa_nil)) (pg_tup rfl (pgs_cons (pg_name (i := 5) scPicI.nd rfl (Or.inl rfl)) (pgs_cons (pg_name (i := 6) scPicI.nd rfl (Or.inl rfl)) pgs_nil)))
      (pss_cons (ps_asg (pe_ix ix_tup (pe_fld (pv 1) rfl) (pv 5) (fun _ _ => rfl)) (pg_tup rfl (pgs_cons (pg_name (i := 7) scPicI.nd rfl (Or.inl rfl)) (pgs_cons (pg_name (i := 8) scPicI.nd rfl (Or.inl rfl)) pgs_nil))))
      (pss_one (ps_if (pt_not (pt_val (C8.pe_c cT hr (by decide) (by rfl) (pa_cons (pv 2) (pa_cons (pe_ix ix_tup (pv 3) (pv 8) (fun _ _ => rfl)) (pa_cons (pe_ix ix_tup (pv 3) (pv 7) (fun _ _ => rfl)) (pa_cons (pv 6) pa_nil))))))) (pss_one ps_never) pss_nil))))
      (pss_cons (ps_fld (pv 0) (pv 1) rfl)
      (pss_cons (ps_fld (pv 0) (pv 2) rfl)
      (pss_cons (ps_fld (pv 0) (pv 3) rfl)
      (pss_one (ps_fld (pv 0) (pv 4) rfl))))))))), ?_⟩
    refine ⟨_, rfl, _, .ref CW, .ref CW, .ref CW, _, rfl, .own CW, IW.ty hw, kit_same, _, rfl, ?_⟩
    refine iteF ⟨_, rfl, .int pr, rfl, Th.int pr, _, rfl, ?_⟩
    rw [primeV_true.mpr ⟨pr, rfl, hpr⟩]
    refine iteF ⟨_, rfl, _, rfl, wb, sz, n, rfl, lw, by omega, hs, fun H1 e1 => ⟨_, rfl, iteF ?_⟩⟩
    refine ⟨_, rfl, _, .ty "tuple", .type "tuple", .type "tuple", true, rfl, .ty _, ty_rd (.inl (e1 _ _ ht)), kit_ty (by decide +kernel), _, rfl, ?_⟩
    refine iteF ⟨_, rfl, tb, _, rfl, .inr (SqT.of (e1 _ _ ht)), _, rfl, wb, CW, dw, _, _, rfl, e1 _ _ hw, DW.cl, DW.n2, wf_arrows .., ab, _, rfl, .inr (SqT.of (e1 _ _ hab)), rfl, _, rfl, ?_⟩
    refine ite2 (fun z => ?_) (fun _ => ?_)
    · rw [List.length_replicate, List.length_map, la, decide_eq_true rfl] at z
      cases z
    refine ⟨_, rfl, tb, _, rfl, .inl (e1 _ _ ht), for_en (a := tb) (xs := List.replicate (n - 1) (V.ref e)) (fun i σ' J => (∃ v5 v6 v7 v8, σ' = [some (.ref p), some (.ref wb), some (.int pr), some (.ref sz), some (.ref tb), v5, v6, v7, v8]) ∧ Ext H J) ⟨⟨_, _, _, _, rfl⟩, e1⟩ (fun i σ' J h => .inl (h.2 _ _ ht)) ?_ ?_⟩
    · rintro i z σ' J q hz ⟨⟨v5, v6, v7, v8, rfl⟩, e2⟩ nq
      have li : i < n - 1 := by
        have := (List.getElem?_eq_some_iff.mp hz).1
        rw [List.length_replicate] at this
        exact this
      have ez := List.eq_of_mem_replicate (List.mem_of_getElem? hz)
      subst ez
      have e3 : Ext H (upd J q (.tup [.int (i : Nat), .ref e])) := e2.trans (Ext.upd nq)
      refine ⟨q, _, rfl, SqT.of upd_same, rfl, _, _, rfl, _, _, rfl, rfl, ?_⟩
      generalize upd J q (.tup [.int (i : Nat), .ref e]) = J1 at *
      have ha : as[i]? = some (as[i]'(by omega)) := List.getElem?_eq_getElem _
      generalize as[i]'(by omega) = ar at *
      have hv : (as.map V.ref)[i]? = some (.ref ar) := by rw [List.getElem?_map, ha]; rfl
      have z0 : ∀ j : Nat, j < n → (List.replicate n (V.int 0))[j]? = some (.int 0) := fun j hj => by rw [List.getElem?_replicate, if_pos hj]
      refine ⟨_, rfl, wb, CW, dw, _, _, rfl, e3 _ _ hw, DW.cl, DW.n2, wf_arrows .., _, rfl, ab, _, (i : Int), _, rfl, rfl, SqT.of (e3 _ _ hab), at_of (j := i) (by omega) hv, ?_⟩
      refine ⟨ar, _, rfl, SqT.of (e3 _ _ (ga i ar ha)), rfl, _, _, rfl, _, _, rfl, rfl, ?_⟩
      refine ⟨_, rfl, _, rfl, _, rfl, sz, _, (i : Int) + 1, .int 0, rfl, rfl, SqT.of (e3 _ _ hs), at_of (j := i + 1) (by omega) (z0 _ (by omega)), _, rfl, _, rfl, sz, _, (i : Int), .int 0, rfl, rfl, SqT.of (e3 _ _ hs), at_of (j := i) (by omega) (z0 _ (by omega)), _, rfl, e, b, pr, 0, 0, rfl, te.ext e3, _, rfl, iteF ⟨⟨_, _, _, _, rfl⟩, e3⟩⟩
    · rintro σ' J ⟨⟨v5, v6, v7, v8, rfl⟩, e2⟩
      refine ⟨_, rfl, _, rfl, p, CP, dx, [], rfl, e2 _ _ hp, D.cl, D.n1, (by show 0 < 1000; decide), ?_⟩
      refine ⟨_, rfl, _, rfl, p, CP, dx, _, rfl, upd_same, D.cl, D.n2, (by show 1 < 1000; decide), ?_⟩
      refine ⟨_, rfl, _, rfl, p, CP, dx, _, rfl, upd_same, D.cl, D.n3, (by show 2 < 1000; decide), ?_⟩
      refine ⟨_, rfl, _, rfl, p, CP, dx, _, rfl, upd_same, D.cl, D.n4, (by show 3 < 1000; decide), ?_⟩
      exact k _ upd_same fun c o nc h => by rw [upd_ne nc, upd_ne nc, upd_ne nc, upd_ne nc]; exact e2 _ _ h
theorem scPicOf : FnScope ["web", "prime", "sizes", "tables", "empty", "picture"] ["web", "prime", "sizes", "tables"] (defScope sPicOf) := ⟨rfl, rfl, rfl, by decide +kernel, rfl, by decide +kernel, by decide +kernel⟩
theorem ok_picOf {f fT fP CP CW CT : Addr} {fd fdT fdP : FuncData} (F : L2.Fun K "picture_of" "picture_of" sPicOf f fd) (T : Gb mg) (D : PicD K mg CP) (DW : WebD K mg CW) (DT : TabD K mg CT) (MT : Mk K CT fT) (FT : FnOk P w K mg base CX0 3 fT fdT ["self", "prime", "wide", "rows"] (spTab CT)) (bT : Binds K fdT ["self", "prime", "wide", "rows"] [])
    (MP : Mk K CP fP) (FP : FnOk P w K mg base CX0 4 fP fdP ["self", "web", "prime", "sizes", "tables"] (spPic CP CW CT)) (bP : Binds K fdP ["self", "web", "prime", "sizes", "tables"] []) : FnOk P w K mg base CX0 6 f fd ["web", "prime", "sizes", "tables"] (spPicOf CP CW) := by
  refine F.ok scPicOf (fun vs H Q E h => ?_) (fun cdv A outer s H vs Q E hr h => ?_)
  · obtain ⟨wb, sz, tb, pr, n, rfl, _⟩ := h
    rfl
  · obtain ⟨wb, sz, tb, pr, n, rfl, lw, n1, n8, hpr, k⟩ := h
    have hr4 : Room 4 _ := hr.mono (by decide)
    refine ⟨_, pss_cons (ps_set (i := 4) scPicOf.nd rfl (Or.inl rfl) (pe_make MT FT hr4 (by rfl) DT.mgC bT .nil pass0 (pa_cons (pv 1) (pa_cons pe_int (pa_cons (pe_tup pa_nil) pa_nil)))))
      (pss_cons (ps_set (i := 5) scPicOf.nd rfl (Or.inl rfl) (pe_make MP FP hr (by rfl) D.mgC bP .nil pass0 (pa_cons (pv 0) (pa_cons (pv 1) (pa_cons (pe_op (r := rRepA K) op_repA (pe_tup (pa_cons pe_int pa_nil)) (pe_fld (pv 0) rfl)) (pa_cons (pe_op (r := rRepA K) op_repA (pe_tup (pa_cons (pv 4) pa_nil)) (pe_callB call_len_seq (by rfl) T.len PySem.boot_len (pa_cons (pe_fld (pv 0) rfl) pa_nil))) pa_nil))))))
      (pss_cons (ps_fld (pv 5) (pv 2) rfl)
      (pss_cons (ps_fld (pv 5) (pv 3) rfl)
      (pss_one (ps_ret (pv 5)))))), ?_⟩
    refine ⟨_, rfl, Nat.zero_le _, fun e0 ne0 e dx0 ne ndx0 nd0 => ?_⟩
    have x0 := Ext.upd (o := .tup []) ne0
    have x1 := Ext.upd (o := .own e) ndx0
    have ne1 : (upd (upd H e0 (.tup [])) dx0 (.own e)) e = Option.none := by rw [upd_ne nd0.symm]; exact ne
    have x2 := Ext.upd (o := .ins CT dx0 []) ne1
    have x02 := x0.trans (x1.trans x2)
    have neH : H e = Option.none := none_of_ext x0 ne
    refine ⟨e, e0, dx0, pr, rfl, hpr, upd_same, .inl (x2 _ _ (x1 _ _ upd_same)), fun H1 he ke => ⟨rfl, ?_⟩⟩
    have e1 : Ext H H1 := fun c o h => ke c o (ne_of_none h neH) (x02 _ _ h)
    obtain ⟨dw, ab, hw, as, hab, la, ga⟩ := id (lw.ext e1)
    refine ⟨_, rfl, _, rfl, by show 1 ≤ sizeLine; decide, fun z0 nz0 => ?_⟩
    have x3 := Ext.upd (o := .tup [V.int 0]) nz0
    refine ⟨_, rfl, wb, CW, dw, _, _, rfl, x3 _ _ hw, DW.cl, DW.n1, wf_many .., z0, (n : Int), [V.int 0], rfl, rfl, upd_same, (fun z => nomatch z), by omega, by omega, by show 1 ≤ 1000; decide, fun s1 J1 y1 hs1 => ?_⟩
    rw [rep1] at hs1
    have x31 := x3.trans y1
    refine ⟨_, rfl, by show 1 ≤ sizeLine; decide, fun t0 nt0 => ?_⟩
    have x4 := Ext.upd (o := .tup [V.ref e]) nt0
    have x314 := x31.trans x4
    refine ⟨_, rfl, wb, CW, dw, _, _, rfl, x314 _ _ hw, DW.cl, DW.n2, wf_arrows .., ab, _, rfl, .inr (SqT.of (x314 _ _ hab)), t0, (((as.map V.ref).length : Nat) : Int), [V.ref e], rfl, rfl, upd_same, (fun z => nomatch z), by omega, by rw [List.length_map]; omega, by show 1 ≤ 1000; decide, fun t1 J2 y2 ht1 => ?_⟩
    rw [rep1] at ht1
    have xx := x314.trans y2
    intro p dx np ndx nd
    have z2 := Ext.upd (o := .own p) ndx
    have np1 : (upd J2 dx (.own p)) p = Option.none := by rw [upd_ne nd.symm]; exact np
    have z3 := Ext.upd (o := .ins CP dx []) np1
    have z23 := z2.trans z3
    have la' : (((as.map V.ref).length : Nat) : Int).toNat = n - 1 := by rw [List.length_map, la]; rfl
    rw [la'] at ht1
    have hs2 : J2 s1 = some (.tup (List.replicate n (V.int 0))) := y2 _ _ (x4 _ _ (by rw [show n = ((n : Int)).toNat from rfl]; exact hs1))
    refine ⟨p, dx, wb, s1, t1, e, e0, pr, n, rfl, upd_same, (lw.ext e1).ext (xx.trans z23), n1, n8, hpr, z23 _ _ hs2, z23 _ _ ht1, TabAt.ext (xx.trans z23) ⟨dx0, he⟩, fun H2 hp kp => ⟨rfl, ?_⟩⟩
    have e2 : Ext J2 H2 := fun c o h => kp c o (ne_of_none h np) (z23 _ _ h)
    have eH : Ext H H2 := e1.trans (xx.trans e2)
    have npH : H p = Option.none := none_of_ext (e1.trans xx) np
    refine ⟨_, rfl, _, rfl, p, CP, dx, _, rfl, hp, D.cl, D.n3, (by show 4 < 1000; decide), ?_⟩
    refine ⟨_, rfl, _, rfl, p, CP, dx, _, rfl, upd_same, D.cl, D.n4, (by show 4 < 1000; decide), ?_⟩
    refine ⟨_, rfl, k p _ (fun c o h => ?_) ⟨dx, upd_same⟩⟩
    have nn := ne_of_none h npH
    rw [upd_ne nn, upd_ne nn]
    exact eH _ _ h
end
end V44

set_option Elab.async false
set_option linter.all false
set_option maxRecDepth 100000
set_option maxHeartbeats 4000000
set_option pp.maxSteps 100
/-! Pictures of bars; pictures laid beside. -/
namespace V44
open PySem L2
abbrev sLaid : Stmt := top 44
abbrev sBarPic : Stmt := top 46
def PicS (CP CT : Addr) (H : Hp) (p wb : Addr) (pr : Int) (n : Nat) : Prop := ∃ (sz tb : Addr) (ss : List Int) (ts : List Addr), PicAt CP H p wb pr sz tb ∧ H sz = some (.tup (ss.map V.int)) ∧ ss.length = n ∧ H tb = some (.tup (ts.map V.ref)) ∧ ts.length = n - 1 ∧ ∀ t ∈ ts, ∃ (wd : Int) (h : Nat), h ≤ 1 ∧ TabS CT H t pr wd h 1
theorem PicS.ext {CP CT : Addr} {H H' : Hp} {p wb : Addr} {pr : Int} {n : Nat} (e : Ext H H') (x : PicS CP CT H p wb pr n) : PicS CP CT H' p wb pr n := let ⟨sz, tb, ss, ts, ⟨dx, h1⟩, h2, h3, h4, h5, h6⟩ := x; ⟨sz, tb, ss, ts, ⟨dx, e _ _ h1⟩, e _ _ h2, h3, e _ _ h4, h5, fun t ht => let ⟨wd, h, a, b⟩ := h6 t ht; ⟨wd, h, a, b.ext e⟩⟩
def spBarPic (CP CW CT : Addr) : Sp := fun vs H Q _ => ∃ (wb : Addr) (pr b e : Int) (n : Nat), vs = [.ref wb, .int pr, .int b, .int e] ∧ LineW CW H wb n ∧ 1 ≤ n ∧ n ≤ 8 ∧ Pr pr ∧ ∀ (p : Addr) (H' : Hp), Ext H H' → PicS CP CT H' p wb pr n → Q (.ref p) H'
def spLaid (CP CW CT : Addr) : Sp := fun vs H Q _ => ∃ (wb ps : Addr) (pr : Int) (n : Nat) (as : List Addr), vs = [.ref wb, .int pr, .ref ps] ∧ LineW CW H wb n ∧ 1 ≤ n ∧ n ≤ 8 ∧ Pr pr ∧ H ps = some (.lst (as.map V.ref)) ∧ as.length ≤ 40 ∧ (∀ a ∈ as, PicS CP CT H a wb pr n) ∧ ∀ (p : Addr) (H' : Hp), Ext H H' → Q (.ref p) H'
/-- ints made -/
theorem ints_of {n : Nat} {ys : List V} {F : Int → Prop} (h : Paired (fun (_ : Nat) y => ∃ v : Int, y = V.int v ∧ F v) ((List.range n).filter fun _ => true) ys) : ∃ ss : List Int, ys = ss.map V.int ∧ ss.length = n ∧ ∀ s ∈ ss, F s := by
  rw [List.filter_eq_self.mpr fun _ _ => rfl] at h
  have : ∀ {rr : List Nat} {ys : List V}, Paired (fun (_ : Nat) y => ∃ v : Int, y = V.int v ∧ F v) rr ys → ∃ ss : List Int, ys = ss.map V.int ∧ ss.length = rr.length ∧ ∀ s ∈ ss, F s := by
    intro rr ys h
    induction h with
    | nil => exact ⟨[], rfl, rfl, fun _ h => nomatch h⟩
    | cons a _ ih =>
      obtain ⟨v, rfl, hv⟩ := a
      obtain ⟨ss, rfl, h2, h3⟩ := ih
      refine ⟨v :: ss, rfl, by rw [List.length_cons, List.length_cons, h2], fun s hs => ?_⟩
      rcases List.mem_cons.mp hs with rfl | hs
      · exact hv
      · exact h3 s hs
  obtain ⟨ss, h1, h2, h3⟩ := this h
  exact ⟨ss, h1, by rw [h2, List.length_range], h3⟩
theorem int_at {S : Hp} {ss : List Int} {i : Nat} (h : i < ss.length) : ∃ v : Int, atI (ss.map V.int) (i : Int) = some (.int v) ∧ v ∈ ss := ⟨ss[i], at_of (j := i) (by omega) (by rw [List.getElem?_map, List.getElem?_eq_getElem h]; rfl), List.getElem_mem h⟩
section
variable {P : Program} {w : World} {K : PySem.W.Frag} {mg : Str → Option Value} {base : Heap}
abbrev barPicN : List Str := ["web", "prime", "begin", "end", "sizes", "tables", "start", "stop", "place"]
theorem scBarPic : FnScope barPicN ["web", "prime", "begin", "end"] (defScope sBarPic) := ⟨rfl, rfl, rfl, by decide +kernel, rfl, by decide +kernel, by decide +kernel⟩
theorem ok_barPic {f CP CW CT : Addr} {fd : FuncData} (F : L2.Fun K "bar_picture" "bar_picture" sBarPic f fd) (T : Gb mg) (DW : WebD K mg CW) (cT : Cal P w K mg base 5 "table_of" (spTabOf CT) []) (cP : Cal P w K mg base 6 "picture_of" (spPicOf CP CW) []) : FnOk P w K mg base CX0 7 f fd ["web", "prime", "begin", "end"] (spBarPic CP CW CT) := by
  refine F.ok scBarPic (fun vs H Q E h => ?_) (fun cdv A outer s H vs Q E hr h => ?_)
  · obtain ⟨wb, pr, b, e, n, rfl, _⟩ := h
    rfl
  · obtain ⟨wb, pr, b, e, n, rfl, lw, n1, n8, hpr, k⟩ := h
    obtain ⟨dw, ab, hw, as, hab, la, ga⟩ := id lw
    refine ⟨_, pss_cons (ps_set (i := 4) scBarPic.nd rfl (Or.inl rfl) (pe_callTy call_tuple_of (by rfl) T.tup (by decide +kernel) (pa_cons (pe_lc (own := [("place", 8)]) (g := gName 8) (tt := tYes) rfl scBarPic.nd (pi_range1 (by rfl) T.rng (pa_cons (pe_fld (pv 0) rfl) pa_nil)) (blkOk_by (N := barPicN) (sc := defScope sBarPic) (by decide +kernel)) (fun _ _ _ _ _ => (pg_name (i := 8) scBarPic.nd rfl (Or.inl rfl))) (fun _ _ _ _ _ => pts_nil) (fun _ _ _ _ _ => (pe_ifExp (pt_chain op_le op_le (pv 2) (pv 8) (pv 3)) pe_int pe_int))) pa_nil)))
      (pss_cons (ps_set (i := 5) scBarPic.nd rfl (Or.inl rfl) (pe_lst pa_nil))
      (pss_cons (ps_for PassesOwn.never rfl (pi_tup (pe_fld (pv 0) rfl)) (pg_tup rfl (pgs_cons (pg_name (i := 6) scBarPic.nd rfl (Or.inl rfl)) (pgs_cons (pg_name (i := 7) scBarPic.nd rfl (Or.inl rfl)) pgs_nil)))
      (pss_one (ps_expr (pe_bm PySem.F.plainAttrs_list PySem.F.slot_list_append PySem.F.type_list_append mt_append (pv 5) (pa_cons (C8.pe_c cT hr (by decide) (by rfl) (pa_cons (pv 1) (pa_cons (pe_ix ix_tup (pv 4) (pv 6) (fun _ _ => rfl)) (pa_cons (pe_op (r := rRepA K) op_repA (pe_tup (pa_cons (pe_op (r := rRepA K) op_repA (pe_tup (pa_cons pe_int pa_nil)) (pe_ix ix_tup (pv 4) (pv 6) (fun _ _ => rfl))) pa_nil)) (pe_ix ix_tup (pv 4) (pv 7) (fun _ _ => rfl))) pa_nil)))) pa_nil)))))
      (pss_one (ps_ret (C8.pe_c cP hr (by decide) (by rfl) (pa_cons (pv 0) (pa_cons (pv 1) (pa_cons (pv 4) (pa_cons (pe_callTy call_tuple_of (by rfl) T.tup (by decide +kernel) (pa_cons (pv 5) pa_nil)) pa_nil))))))))), ?_⟩
    refine ⟨_, rfl, wb, CW, dw, _, _, rfl, hw, DW.cl, DW.n1, wf_many .., (n : Int), rfl, by omega, by omega, fun D nD => ?_⟩
    refine lc_gen (n := (n : Int).toNat) (p := fun _ => true) (walk_range (lo := 0)) nD (by omega) (fun _ y _ => ∃ v : Int, y = V.int v ∧ 0 ≤ v ∧ v ≤ 1) (fun _ _ _ _ _ z => z) (fun H' e => True.intro) ?_ ?_
    · rintro t y J J' R N ht e7 ⟨rfl, rfl⟩ hR hN
      refine ⟨rfl, tyes_in ?_⟩
      have one : R (.int 1) J' := hR rfl _ _ Ext.rfl' ⟨1, rfl, by decide, by decide⟩
      have zero : R (.int 0) J' := hR rfl _ _ Ext.rfl' ⟨0, rfl, by decide, by decide⟩
      refine ⟨_, rfl, _, rfl, _, _, rfl, rfl, _, rfl, ?_⟩
      exact ite2 (fun _ => ⟨_, rfl, _, _, rfl, rfl, _, rfl, ite2 (fun _ => one) (fun _ => zero)⟩) (fun _ => ⟨_, rfl, iteF zero⟩)
    intro ys H1 e1 hD pp
    obtain ⟨ss, rfl, ls, gs⟩ := ints_of pp
    have ls' : ss.length = n := by omega
    refine ⟨D, _, rfl, .inl ⟨SqL.of hD, fun sz nsz => ?_⟩⟩
    have xs := Ext.upd (o := .tup (ss.map V.int)) nsz
    refine ⟨Nat.zero_le _, fun l nl => ?_⟩
    have xl := Ext.upd (o := .lst []) nl
    have x0 := e1.trans (xs.trans xl)
    have hsz : (upd (upd H1 sz (.tup (ss.map V.int))) l (.lst [])) sz = some (.tup (ss.map V.int)) := xl _ _ upd_same
    have hl : (upd (upd H1 sz (.tup (ss.map V.int))) l (.lst [])) l = some (.lst []) := upd_same
    have nlH : H l = Option.none := none_of_ext (e1.trans xs) nl
    generalize upd (upd H1 sz (.tup (ss.map V.int))) l (.lst []) = H2 at *
    refine ⟨_, rfl, wb, CW, dw, _, _, rfl, x0 _ _ hw, DW.cl, DW.n2, wf_arrows .., ab, rfl, ⟨_, SqT.of (x0 _ _ hab)⟩, ?_⟩
    refine for_it walk_tup (fun i σ' J => ∃ (v6 v7 : Option V) (ts : List Addr), σ' = [some (.ref wb), some (.int pr), some (.int b), some (.int e), some (.ref sz), some (.ref l), v6, v7, Option.none] ∧ GoD l H2 J ∧ J l = some (.lst (ts.map V.ref)) ∧ ts.length = i ∧ ∀ t ∈ ts, ∃ (wd : Int) (h : Nat), h ≤ 1 ∧ TabS CT J t pr wd h 1)
      ⟨_, _, [], rfl, (fun _ _ _ h => h), hl, rfl, (fun _ h => nomatch h)⟩ (fun i σ' J _ ⟨_, _, _, _, g, _⟩ => SqT.of (g _ _ (fun z => by rw [z, nlH] at hab; cases hab) (x0 _ _ hab))) ?_ ?_
    · rintro i z σ' J J' hi ⟨v6, v7, ts, rfl, g, hlJ, lt, gt⟩ ⟨rfl, hy⟩
      rw [List.length_map, la] at hi
      obtain ⟨a, ha, rfl⟩ := ref_get hy
      have keepT : ∀ {q : Addr} {xs : List V}, H2 q = some (.tup xs) → J' q = some (.tup xs) := fun {q xs} h => g _ _ (fun z => by rw [z, hl] at h; cases h) h
      have haJ := keepT (x0 _ _ (ga i a ha))
      have hszJ := keepT hsz
      obtain ⟨u1, hu1, mu1⟩ := int_at (S := J') (ss := ss) (i := i) (by omega)
      obtain ⟨u2, hu2, mu2⟩ := int_at (S := J') (ss := ss) (i := i + 1) (by omega)
      have g1 := gs u1 mu1
      have g2 := gs u2 mu2
      refine ⟨a, _, rfl, SqT.of haJ, rfl, _, _, rfl, _, _, rfl, rfl, ?_⟩
      refine ⟨_, rfl, .inl ⟨rfl, _, SqL.of hlJ⟩, _, rfl, _, rfl, _, rfl, sz, _, (i : Int), .int u1, rfl, rfl, SqT.of hszJ, hu1, by show 1 ≤ sizeLine; decide, fun o1 no1 => ?_⟩
      have y1 := Ext.upd (o := .tup [V.int 1]) no1
      refine ⟨_, rfl, _, rfl, sz, _, (i : Int), .int u1, rfl, rfl, SqT.of (y1 _ _ hszJ), hu1, o1, u1, [V.int 1], rfl, rfl, upd_same, (fun z => nomatch z), g1.1, by omega, by show 1 ≤ 1000; decide, fun r1 J1 y2 hr1 => ?_⟩
      rw [rep1] at hr1
      refine ⟨by show 1 ≤ sizeLine; decide, fun o2 no2 => ?_⟩
      have y3 := Ext.upd (o := .tup [V.ref r1]) no2
      have y13 := y1.trans (y2.trans y3)
      refine ⟨_, rfl, _, rfl, sz, _, (i : Int) + 1, .int u2, rfl, rfl, SqT.of (y13 _ _ hszJ), (by rw [show (i : Int) + 1 = ((i + 1 : Nat) : Int) by omega]; exact hu2), o2, u2, [V.ref r1], rfl, rfl, upd_same, (fun z => nomatch z), g2.1, by omega, by show 1 ≤ 1000; decide, fun r2 J2 y4 hr2 => ?_⟩
      rw [rep1] at hr2
      have y14 := y13.trans y4
      refine ⟨r2, pr, u1, _, rfl, hpr, .inl hr2, fun tb J3 y5 htb => ?_⟩
      have yy := y14.trans y5
      have hlJ3 := yy _ _ hlJ
      refine ⟨l, _, _, rfl, rfl, hlJ3, small1000 (by rw [List.length_map]; omega), ?_⟩
      have put : GoD l J3 (upd J3 l (.lst (ts.map V.ref ++ [.ref tb]))) := GoD.put
      have keep3 : ∀ {t : Addr} {wd : Int} {h M : Nat}, TabS CT J3 t pr wd h M → TabS CT (upd J3 l (.lst (ts.map V.ref ++ [.ref tb]))) t pr wd h M := fun {t wd h M} ⟨b', rs, ⟨dx, q1⟩, q2, q3, q4, q5⟩ =>
        ⟨b', rs, ⟨dx, put _ _ (fun z => by rw [z, hlJ3] at q1; cases q1) q1⟩, put _ _ (fun z => by rw [z, hlJ3] at q2; cases q2) q2, q3, fun r hr => let ⟨xs, q6, q7⟩ := q4 r hr; ⟨xs, put _ _ (fun z => by rw [z, hlJ3] at q6; cases q6) q6, q7⟩, q5⟩
      refine ⟨_, _, ts ++ [tb], rfl, (g.trans (GoD.of yy)).trans put, by rw [upd_same, List.map_append]; rfl, by rw [List.length_append, lt]; rfl, fun t ht => ?_⟩
      rcases List.mem_append.mp ht with q | q
      · obtain ⟨wd, h, q1, q2⟩ := gt t q
        exact ⟨wd, h, q1, keep3 (q2.ext yy)⟩
      · rw [List.mem_singleton.mp q]
        refine ⟨u1, u2.toNat, by omega, keep3 ⟨r2, List.replicate u2.toNat r1, ?_, ?_, by rw [List.length_replicate], fun r hr => by
          obtain rfl := List.eq_of_mem_replicate hr
          exact ⟨_, y5 _ _ (y4 _ _ (y3 _ _ hr1)), by rw [List.length_replicate]; omega⟩, g1.1, by omega⟩⟩
        · rw [List.length_replicate] at htb
          exact htb
        · rw [List.map_replicate]
          exact y5 _ _ hr2
    · rintro σ' J ⟨v6, v7, ts, rfl, g, hlJ, lt, gt⟩
      rw [List.length_map, la] at lt
      have eJ : Ext H J := fun c o h => g _ _ (fun z => by rw [z, nlH] at h; cases h) (x0 _ _ h)
      have hszJ : J sz = some (.tup (ss.map V.int)) := g _ _ (fun z => by rw [z, hl] at hsz; cases hsz) hsz
      refine ⟨_, rfl, _, rfl, _, rfl, _, rfl, l, _, rfl, .inl ⟨SqL.of hlJ, fun tb ntb => ?_⟩⟩
      have xt := Ext.upd (o := .tup (ts.map V.ref)) ntb
      refine ⟨wb, sz, tb, pr, n, rfl, lw.ext (eJ.trans xt), n1, n8, hpr, fun p H' e' hp => ?_⟩
      have xe := xt.trans e'
      exact k p H' (eJ.trans xe) ⟨sz, tb, ss, ts, hp, xe _ _ hszJ, ls', e' _ _ upd_same, lt, fun t ht => let ⟨wd, h, q1, q2⟩ := gt t ht; ⟨wd, h, q1, q2.ext xe⟩⟩
end
end V44

set_option Elab.async false
set_option linter.all false
set_option maxRecDepth 100000
set_option maxHeartbeats 4000000
set_option pp.maxSteps 100
/-! Pictures laid beside. -/
namespace V44
open PySem L2
theorem ref_at {as : List Addr} {i : Nat} (h : i < as.length) : ∃ a, atI (as.map V.ref) (i : Int) = some (.ref a) ∧ a ∈ as := ⟨as[i], at_of (j := i) (by omega) (by rw [List.getElem?_map, List.getElem?_eq_getElem h]; rfl), List.getElem_mem h⟩
section
variable {P : Program} {w : World} {K : PySem.W.Frag} {mg : Str → Option Value} {base : Heap}
abbrev laidN : List Str := ["web", "prime", "pictures", "picture", "sizes", "tables", "at", "whole", "place"]
theorem scLaid : FnScope laidN ["web", "prime", "pictures"] (defScope sLaid) := ⟨rfl, rfl, rfl, by decide +kernel, rfl, by decide +kernel, by decide +kernel⟩
theorem ok_laid {f fT CP CW CT : Addr} {fd fdT : FuncData} (F : L2.Fun K "laid_beside" "laid_beside" sLaid f fd) (T : Gb mg) (zS : mg "sum" = none) (D : PicD K mg CP) (DW : WebD K mg CW) (DT : TabD K mg CT) (MT : Mk K CT fT) (FT : FnOk P w K mg base CX0 3 fT fdT ["self", "prime", "wide", "rows"] (spTab CT)) (bT : Binds K fdT ["self", "prime", "wide", "rows"] [])
    (cC : Cal P w K mg base 6 "corner" (spCorner CT) []) (cP : Cal P w K mg base 6 "picture_of" (spPicOf CP CW) []) : FnOk P w K mg base CX0 7 f fd ["web", "prime", "pictures"] (spLaid CP CW CT) := by
  refine F.ok scLaid (fun vs H Q E h => ?_) (fun cdv A outer s H vs Q E hr h => ?_)
  · obtain ⟨wb, ps, pr, n, as, rfl, _⟩ := h
    rfl
  · obtain ⟨wb, ps, pr, n, as, rfl, lw, n1, n8, hpr, hps, l40, gp, k⟩ := h
    obtain ⟨dw, ab, hw, arr, hab, la, ga⟩ := id lw
    have hr4 : Room 4 _ := hr.mono (by decide)
    refine ⟨_, pss_cons (ps_setLc (i := 4) (own := [("place", 8)]) (g := gName 8) (tt := tYes) rfl scLaid.nd rfl rfl (sw_true rfl rfl rfl (by decide +kernel)) (pi_range1 (by rfl) T.rng (pa_cons (pe_fld (pv 0) rfl) pa_nil)) (blkOk_by (N := laidN) (sc := defScope sLaid) (by decide +kernel)) (fun _ _ _ _ _ => (pg_name (i := 8) scLaid.nd rfl (Or.inr rfl))) (fun _ _ _ _ _ => pts_nil) (fun _ _ _ _ _ => (pe_callB (r := rSum K) (cr_sum rfl) (by rfl) zS (by decide +kernel) (pa_cons (pe_lc (own := [("picture", 3)]) (g := gName 3) (tt := tYes) (wi := iList K (tVar 2)) rfl scLaid.nd (pi_list (pv 2)) (blkOk_by (by first | kernel_rfl | rfl)) (fun _ _ _ _ _ => (pg_name (i := 3) scLaid.nd rfl (Or.inl rfl))) (fun _ _ _ _ _ => pts_nil) (fun _ _ _ _ _ => (pe_ix (r := rIxT K) ix_tup (pe_fldK (K := K) rfl (pv 3) rfl) (pv 8) (fun _ _ => rfl)))) pa_nil))))
      (pss_cons (ps_set (i := 5) scLaid.nd rfl (Or.inl rfl) (pe_lst pa_nil))
      (pss_cons (ps_for PassesOwn.never rfl (pi_range1 (by rfl) T.rng (pa_cons (pe_callB call_len_seq (by rfl) T.len PySem.boot_len (pa_cons (pe_fld (pv 0) rfl) pa_nil)) pa_nil)) (pg_name (i := 6) scLaid.nd rfl (Or.inl rfl))
      (pss_cons (ps_set (i := 7) scLaid.nd rfl (Or.inl rfl) (pe_make MT FT hr4 (by rfl) DT.mgC bT .nil pass0 (pa_cons (pv 1) (pa_cons pe_int (pa_cons (pe_tup pa_nil) pa_nil)))))
      (pss_cons (ps_for PassesOwn.never rfl (pi_list (pv 2)) (pg_name (i := 3) scLaid.nd rfl (Or.inl rfl))
      (pss_one (ps_set (i := 7) scLaid.nd rfl (Or.inl rfl) (C8.pe_c cC hr (by decide) (by rfl) (pa_cons (pv 7) (pa_cons (pe_ix ix_tup (pe_fld (pv 3) rfl) (pv 6) (fun _ _ => rfl)) pa_nil))))))
      (pss_one (ps_expr (pe_bm PySem.F.plainAttrs_list PySem.F.slot_list_append PySem.F.type_list_append mt_append (pv 5) (pa_cons (pv 7) pa_nil)))))))
      (pss_one (ps_ret (C8.pe_c cP hr (by decide) (by rfl) (pa_cons (pv 0) (pa_cons (pv 1) (pa_cons (pe_callTy call_tuple_of (by rfl) T.tup (by decide +kernel) (pa_cons (pv 4) pa_nil)) (pa_cons (pe_callTy call_tuple_of (by rfl) T.tup (by decide +kernel) (pa_cons (pv 5) pa_nil)) pa_nil))))))))), ?_⟩
    -- the sizes
    refine ⟨_, rfl, wb, CW, dw, _, _, rfl, hw, DW.cl, DW.n1, wf_many .., (n : Int), rfl, by omega, by omega, fun D1 nD1 => ?_⟩
    refine lc_gen (n := (n : Int).toNat) (p := fun _ => true) (walk_range (lo := 0)) nD1 (by omega) (fun _ y _ => ∃ v : Int, y = V.int v ∧ True) (fun _ _ _ _ _ z => z) (fun H' e => True.intro) ?_ ?_
    · rintro t y J J' R N ht e7 ⟨rfl, rfl⟩ hR hN
      refine ⟨rfl, tyes_in ⟨_, rfl, ps, rfl, ⟨_, SqL.of (e7 _ _ hps)⟩, fun D2 nD2 => ?_⟩⟩
      refine lc_gen (n := (as.map V.ref).length) (p := fun _ => true) walk_list nD2 (by rw [List.length_map]; omega) (fun _ y _ => ∃ v : Int, y = V.int v ∧ True) (fun _ _ _ _ _ z => z) (fun H' e => SqL.of (e _ _ (e7 _ _ hps))) ?_ ?_
      · rintro t2 y2 J2 J2' R2 N2 ht2 e8 ⟨rfl, hy2⟩ hR2 hN2
        obtain ⟨a, ha, rfl⟩ := ref_get hy2
        obtain ⟨sz, tb, ss, ts, ⟨dx, q1⟩, q2, q3, q4, q5, q6⟩ := ((gp a (List.mem_of_getElem? ha)).ext e7).ext e8
        obtain ⟨v, hv, _⟩ := int_at (S := J2') (ss := ss) (i := t) (by omega)
        refine ⟨rfl, tyes_in ⟨_, rfl, a, CP, dx, _, _, rfl, q1, D.cl, D.n3, pf_sizes .., _, rfl, sz, _, (0 : Int) + (t : Int), .int v, rfl, rfl, SqT.of q2, (by rw [show (0 : Int) + (t : Int) = (t : Int) by omega]; exact hv), ?_⟩⟩
        exact hR2 rfl _ _ Ext.rfl' ⟨v, rfl, True.intro⟩
      intro ys2 J3 e9 hD2 pp2
      obtain ⟨ss2, rfl, _, _⟩ := ints_of pp2
      refine ⟨D2, ss2, rfl, SqL.of hD2, ?_⟩
      exact hR rfl _ _ e9 ⟨_, rfl, True.intro⟩
    intro ys H1 e1 hD1 pp
    obtain ⟨ss, rfl, ls, _⟩ := ints_of pp
    refine ⟨Nat.zero_le _, fun l nl => ?_⟩
    have xl := Ext.upd (o := .lst []) nl
    have x0 := e1.trans xl
    have hD := xl _ _ hD1
    have hl : (upd H1 l (.lst [])) l = some (.lst []) := upd_same
    have nlH : H l = Option.none := none_of_ext e1 nl
    have nDl : D1 ≠ l := ne_of_none hD1 nl
    generalize upd H1 l (.lst []) = H2 at *
    have npl : ps ≠ l := fun z => by rw [z, nlH] at hps; cases hps
    have eX : ∀ {J : Hp}, GoD l H2 J → Ext H J := fun {J} g c o h => g _ _ (fun z => by rw [z, nlH] at h; cases h) (x0 _ _ h)
    refine ⟨_, rfl, wb, CW, dw, _, _, rfl, x0 _ _ hw, DW.cl, DW.n2, wf_arrows .., ab, _, rfl, .inr (SqT.of (x0 _ _ hab)), ((arr.map V.ref).length : Int), rfl, by rw [List.length_map]; omega, by rw [List.length_map]; omega, ?_⟩
    refine for_range (lo := 0) (n := ((arr.map V.ref).length : Int).toNat) (fun i σ' J => ∃ (v3 v6 v7 : Option V) (ts : List Addr), σ' = [some (.ref wb), some (.int pr), some (.ref ps), v3, some (.ref D1), some (.ref l), v6, v7, Option.none] ∧ GoD l H2 J ∧ J l = some (.lst (ts.map V.ref)) ∧ ts.length = i) ⟨_, _, _, [], rfl, (fun _ _ _ h => h), hl, rfl⟩ ?_ ?_
    · rintro i σ' J hi ⟨v3, v6, v7, ts, rfl, g, hlJ, lt⟩
      rw [List.length_map, la] at hi
      refine ⟨_, rfl, Nat.zero_le _, fun e0 ne0 e dx0 ne ndx0 nd0 => ?_⟩
      have y0 := Ext.upd (o := .tup []) ne0
      have y1 := Ext.upd (o := .own e) ndx0
      have ne1 : (upd (upd J e0 (.tup [])) dx0 (.own e)) e = Option.none := by rw [upd_ne nd0.symm]; exact ne
      have y2 := Ext.upd (o := .ins CT dx0 []) ne1
      have y02 := y0.trans (y1.trans y2)
      have neJ : J e = Option.none := none_of_ext y0 ne
      have he0 := y2 _ _ (y1 _ _ (show (upd J e0 (.tup [])) e0 = some (.tup []) from upd_same))
      refine ⟨e, e0, dx0, pr, rfl, hpr, upd_same, .inl he0, fun J1 he ke => ⟨rfl, ?_⟩⟩
      have z1 : Ext J J1 := fun c o h => ke c o (ne_of_none h neJ) (y02 _ _ h)
      have e0e : e0 ≠ e := ne_of_none (show (upd J e0 (.tup [])) e0 = some (.tup []) from upd_same) ne
      have t0 : TabS CT J1 e pr 0 0 0 := ⟨e0, [], ⟨dx0, he⟩, ke _ _ e0e he0, rfl, (fun _ h => nomatch h), by decide, by decide⟩
      have hlJ1 := z1 _ _ hlJ
      have gJ1 := g.trans (GoD.of z1)
      refine ⟨_, rfl, ps, rfl, ⟨_, SqL.of (eX gJ1 _ _ hps)⟩, ?_⟩
      refine for_it walk_list (fun m σ' J2 => ∃ (v3 : Option V) (wh : Addr) (wd : Int) (h M : Nat), σ' = [some (.ref wb), some (.int pr), some (.ref ps), v3, some (.ref D1), some (.ref l), some (.int (0 + (i : Int))), some (.ref wh), Option.none] ∧ Ext J1 J2 ∧ TabS CT J2 wh pr wd h M ∧ h ≤ m ∧ M ≤ m) ⟨_, e, 0, 0, 0, rfl, Ext.rfl', t0, Nat.le_refl _, Nat.le_refl _⟩ (fun m σ' J2 _ ⟨_, _, _, _, _, _, x, _⟩ => SqL.of (x _ _ (eX gJ1 _ _ hps))) ?_ ?_
      · rintro m z σ' J2 J2' hm ⟨v3', wh, wd, h, M, rfl, x, tw, hm1, hm2⟩ ⟨rfl, hy⟩
        rw [List.length_map] at hm
        obtain ⟨a, ha, rfl⟩ := ref_get hy
        obtain ⟨sz, tb, ss', ts', ⟨dx, q1⟩, q2, q3, q4, q5, q6⟩ := ((gp a (List.mem_of_getElem? ha)).ext (eX gJ1)).ext x
        obtain ⟨t, hat, mt⟩ := ref_at (as := ts') (i := i) (by omega)
        obtain ⟨wd2, h2, h21, tt⟩ := q6 t mt
        refine ⟨_, rfl, _, rfl, a, CP, dx, _, _, rfl, q1, D.cl, D.n4, pf_tables .., _, rfl, tb, _, 0 + (i : Int), .ref t, rfl, rfl, SqT.of q4, (by rw [show (0 : Int) + (i : Int) = (i : Int) by omega]; exact hat), ?_⟩
        refine ⟨wh, t, pr, wd, wd2, h, h2, M, 1, rfl, hpr, tw, tt, by omega, by omega, fun r J3 x3 tr => ?_⟩
        exact ⟨_, r, _, _, _, rfl, x.trans x3, tr, by omega, by omega⟩
      · rintro σ' J2 ⟨v3', wh, wd, h, M, rfl, x, tw, hm1, hm2⟩
        have hlJ2 := x _ _ hlJ1
        refine ⟨_, rfl, .inl ⟨rfl, _, SqL.of hlJ2⟩, _, rfl, l, _, _, rfl, rfl, hlJ2, small1000 (by rw [List.length_map]; omega), ?_⟩
        exact ⟨_, _, _, ts ++ [wh], rfl, (gJ1.trans (GoD.of x)).trans GoD.put, by rw [upd_same, List.map_append]; rfl, by rw [List.length_append, lt]; rfl⟩
    · rintro σ' J ⟨v3, v6, v7, ts, rfl, g, hlJ, lt⟩
      have hDJ : J D1 = some (.lst (ss.map V.int)) := g _ _ nDl hD
      refine ⟨_, rfl, _, rfl, _, rfl, D1, _, rfl, .inl ⟨SqL.of hDJ, fun s1 ns1 => ?_⟩⟩
      have z1 := Ext.upd (o := .tup (ss.map V.int)) ns1
      refine ⟨_, rfl, l, _, rfl, .inl ⟨SqL.of (z1 _ _ hlJ), fun t1 nt1 => ?_⟩⟩
      have z2 := Ext.upd (o := .tup (ts.map V.ref)) nt1
      have zz := (eX g).trans (z1.trans z2)
      exact ⟨wb, s1, t1, pr, n, rfl, lw.ext zz, n1, n8, hpr, fun p H' e' _ => k p H' (zz.trans e')⟩
end
end V44

set_option Elab.async false
set_option linter.all false
set_option maxRecDepth 100000
set_option maxHeartbeats 4000000
set_option pp.maxSteps 100
/-! A bar over its stops. -/
namespace V44
open PySem L2
abbrev sOver : Stmt := top 58
theorem walk_en {a : Addr} {xs : List V} : Walk (ItEn a) xs.length (fun H => Rd H a (.tup xs)) (YPair (fun i => some (.int (i : Nat))) (fun i => xs[i]?)) := by
  refine ⟨fun i _ hi q => ⟨xs, xs[i], q, by simp [hi]⟩, fun _ q => ⟨xs, q, rfl⟩, fun i H v H' _ q y => ?_⟩
  obtain ⟨p, x, h1, h2, h3, h4⟩ := y
  exact ⟨p, .int (i : Nat), x, h1, h2, h3, rfl, h4 xs q⟩
theorem ints_any {rr : List Nat} {ys : List V} (h : Paired (fun (_ : Nat) y => ∃ v : Int, y = V.int v) rr ys) : ∃ ss : List Int, ys = ss.map V.int ∧ ss.length = rr.length := by
  induction h with
  | nil => exact ⟨[], rfl, rfl⟩
  | cons a _ ih =>
    obtain ⟨v, rfl⟩ := a
    obtain ⟨ss, rfl, h2⟩ := ih
    exact ⟨v :: ss, rfl, by rw [List.length_cons, List.length_cons, h2]⟩
theorem at_last {xs : List V} (h : 0 < xs.length) : ∃ v, atI xs (-1) = some v ∧ v ∈ xs := by
  refine ⟨xs[xs.length - 1], ?_, List.getElem_mem _⟩
  unfold atI ixN
  rw [if_neg (by decide), if_pos (by omega)]
  have e : (-1 + (xs.length : Int)).toNat = xs.length - 1 := by omega
  show xs[(-1 + (xs.length : Int)).toNat]? = _
  rw [e, List.getElem?_eq_getElem]
def goneB (gone : V) (m : Int) : Bool := match gone with
  | .int g => decide (m ≤ g)
  | _ => true
def spOver (CP CW CT : Addr) : Sp := fun vs H Q _ => ∃ (wb sp : Addr) (pr born : Int) (gone : V) (ms : List Int) (n : Nat), vs = [.ref wb, .int pr, .ref sp, .int born, gone] ∧ LineW CW H wb n ∧ 1 ≤ n ∧ n ≤ 8 ∧ Pr pr ∧ H sp = some (.tup (ms.map V.int)) ∧ ms.length ≤ 1000 ∧ (gone = .non ∨ ∃ g : Int, gone = .int g) ∧
  ∀ (l : Addr) (as : List Addr) (H' : Hp), Ext H H' → H' l = some (.lst (as.map V.ref)) → as.length ≤ 1 → (∀ a ∈ as, PicS CP CT H' a wb pr n) → Q (.ref l) H'
section
variable {P : Program} {w : World} {K : PySem.W.Frag} {mg : Str → Option Value} {base : Heap}
abbrev overN : List Str := ["web", "prime", "stops", "born", "gone", "there", "at", "stop"]
theorem scOver : FnScope overN ["web", "prime", "stops", "born", "gone"] (defScope sOver) := ⟨rfl, rfl, rfl, by decide +kernel, rfl, by decide +kernel, by decide +kernel⟩
theorem ok_over {f CP CW CT : Addr} {fd : FuncData} (F : L2.Fun K "bar_over" "bar_over" sOver f fd) (T : Gb mg) (cB : Cal P w K mg base 7 "bar_picture" (spBarPic CP CW CT) []) : FnOk P w K mg base CX0 8 f fd ["web", "prime", "stops", "born", "gone"] (spOver CP CW CT) := by
  refine F.ok scOver (fun vs H Q E h => ?_) (fun cdv A outer s H vs Q E hr h => ?_)
  · obtain ⟨wb, sp, pr, born, gone, ms, n, rfl, _⟩ := h
    rfl
  · obtain ⟨wb, sp, pr, born, gone, ms, n, rfl, lw, n1, n8, hpr, hs, l1000, hg, k⟩ := h
    refine ⟨_, pss_cons (ps_setLc (i := 5) (own := [("at", 6), ("stop", 7)]) (g := gTup K 2 (gCons (gName 6) (gCons (gName 7) gNil))) rfl scOver.nd rfl rfl (sw_true rfl rfl rfl (by decide +kernel)) (pi_en (by rfl) T.enum (pa_cons (pv 2) pa_nil)) (blkOk_by (N := overN) (sc := defScope sOver) (by decide +kernel)) (fun _ _ _ _ _ => (pg_tup rfl (pgs_cons (pg_name (i := 6) scOver.nd rfl (Or.inl rfl)) (pgs_cons (pg_name (i := 7) scOver.nd rfl (Or.inl rfl)) pgs_nil)))) (fun _ _ _ _ _ => (pts_one (PW.pt (pw_and (pt_cmpR op_lt (pv 3) (pv 7) (nomark _)) (pw_and1 (PW.pt (pw_or (pt_cmpR op_isN (pv 4) pe_non (nomark _)) (pw_or1 (pt_cmpR op_le (pv 7) (pv 4) (nomark _)))))))))) (fun _ _ _ _ _ => (pv 6)))
      (pss_cons (ps_if (pt_cmpR op_eq (pe_callB call_len_seq (by rfl) T.len PySem.boot_len (pa_cons (pv 5) pa_nil)) pe_int (nomark _)) (pss_one (ps_ret (pe_lst pa_nil))) pss_nil)
      (pss_one (ps_ret (pe_lst (pa_cons (C8.pe_c cB hr (by decide) (by rfl) (pa_cons (pv 0) (pa_cons (pv 1) (pa_cons (pe_ix ix_list (pv 5) pe_int (fun _ _ => rfl)) (pa_cons (pe_ix ix_list (pv 5) (pe_un un_neg pe_int) (fun _ _ => rfl)) pa_nil))))) pa_nil))))), ?_⟩
    refine ⟨_, rfl, sp, _, rfl, .inl hs, fun D nD => ?_⟩
    refine lc_gen (n := (ms.map V.int).length) (p := fun i => decide (born < ms.getD i 0) && goneB gone (ms.getD i 0)) walk_en nD (by rw [List.length_map]; exact l1000) (fun _ y _ => ∃ v : Int, y = V.int v) (fun _ _ _ _ _ z => z) (fun H' e => .inl (e _ _ hs)) ?_ ?_
    · rintro i z J J' R N hi e7 ⟨t, x, y, rfl, nt, rfl, hx, hy⟩ hR hN
      cases hx
      obtain ⟨m, hm, rfl⟩ := map_int_get hy
      have gm : ms.getD i 0 = m := by rw [List.getD_eq_getElem?_getD, hm]; rfl
      rw [gm] at hR hN
      have et := Ext.upd (o := .tup [V.int (i : Nat), .int m]) nt
      refine ⟨t, _, rfl, SqT.of upd_same, rfl, _, _, rfl, _, _, rfl, rfl, rfl, ?_⟩
      refine ⟨_, rfl, _, rfl, _, _, rfl, rfl, _, rfl, ?_⟩
      cases hb : decide (born < m) with
      | false =>
        rw [hb, Bool.false_and] at hN
        exact iteF (iteF (hN rfl _ et))
      | true =>
        rw [hb, Bool.true_and] at hR hN
        rcases hg with rfl | ⟨g, rfl⟩
        · refine iteT ⟨_, rfl, rfl, _, rfl, ?_⟩
          refine ite2 (fun _ => ?_) (fun z => absurd (decide_eq_true rfl) z)
          exact iteT ⟨_, rfl, hR rfl _ _ et ⟨_, rfl⟩⟩
        · refine iteT ⟨_, rfl, rfl, _, rfl, ?_⟩
          refine ite2 (fun z => absurd (of_decide_eq_true z) (fun q => nomatch q)) (fun _ => ?_)
          refine ⟨_, rfl, _, rfl, _, _, rfl, rfl, _, rfl, ?_⟩
          cases hg2 : decide (m ≤ g) with
          | false =>
            exact iteF (hN hg2 _ et)
          | true =>
            exact iteT ⟨_, rfl, hR hg2 _ _ et ⟨_, rfl⟩⟩
    intro ys H1 e1 hD pp
    obtain ⟨ss, rfl, ls⟩ := ints_any pp
    refine ⟨_, rfl, D, _, rfl, .inl (SqL.of hD), rfl, _, rfl, ?_⟩
    refine ite2 (fun _ => ?_) (fun z => ?_)
    · refine ⟨Nat.zero_le _, fun l nl => ?_⟩
      exact k l [] _ (e1.trans (Ext.upd nl)) upd_same (Nat.zero_le _) (fun _ h => nomatch h)
    · have pos : 0 < (ss.map V.int).length := Nat.pos_of_ne_zero fun q => z (by rw [q]; rfl)
      have h0 : ∃ v : Int, atI (ss.map V.int) 0 = some (.int v) := by
        rw [List.length_map] at pos
        obtain ⟨v, hv, _⟩ := int_at (S := H) (ss := ss) (i := 0) pos
        exact ⟨v, hv⟩
      obtain ⟨v0, hv0⟩ := h0
      obtain ⟨vl, hvl, ml⟩ := at_last pos
      obtain ⟨v1, _, rfl⟩ := List.mem_map.mp ml
      refine ⟨_, rfl, _, rfl, _, rfl, D, _, 0, .int v0, rfl, rfl, SqL.of hD, hv0, _, rfl, 1, rfl, D, _, -1, .int v1, rfl, rfl, SqL.of hD, hvl, ?_⟩
      refine ⟨wb, pr, v0, v1, n, rfl, lw.ext e1, n1, n8, hpr, fun p H2 e2 hp => ⟨by show 1 ≤ sizeLine; decide, fun l nl => ?_⟩⟩
      have xl := Ext.upd (o := .lst [V.ref p]) nl
      exact k l [p] _ ((e1.trans e2).trans xl) upd_same (Nat.le_refl _) fun a ha => by rw [List.mem_singleton.mp ha]; exact hp.ext xl
end
end V44

set_option Elab.async false
set_option linter.all false
set_option maxRecDepth 100000
set_option maxHeartbeats 4000000
set_option pp.maxSteps 60
/-! Things through and through; ascending tuples. -/
namespace V44.G
open PySem L2
abbrev sAsc : Stmt := top 6
/-- what a thing is, through tuples -/
inductive D where
  | oth
  | non
  | bl (b : Bool)
  | int (i : Int)
  | tup (ds : List D)
mutual
inductive TD (K : PySem.W.Frag) (H : Hp) : V → D → Prop
  | oth {x : V} {t : Value} : TyX K H x t → PySem.W.kitOne K t (.type "int") = some false → PySem.W.kitOne K t (.type "bool") = some false → PySem.W.kitOne K t (.type "tuple") = some false → isI x = false → isB x = false → x ≠ .non →
      (∀ a, x = .ref a → ∃ o, H a = some o ∧ (∀ xs, o ≠ .tup xs) ∧ ∀ ps, o ≠ .tbl ps) → TD K H x .oth
  | non : TD K H .non .non
  | bl (b : Bool) : TD K H (.bl b) (.bl b)
  | int (i : Int) : TD K H (.int i) (.int i)
  | tup {a : Addr} {xs : List V} {ds : List D} : H a = some (.tup xs) → xs.length ≤ 1000 → TDs K H xs ds → TD K H (.ref a) (.tup ds)
inductive TDs (K : PySem.W.Frag) (H : Hp) : List V → List D → Prop
  | nil : TDs K H [] []
  | cons {x : V} {d : D} {xs : List V} {ds : List D} : TD K H x d → TDs K H xs ds → TDs K H (x :: xs) (d :: ds)
end
section
variable {K : PySem.W.Frag} {H : Hp}
theorem TDs.len : ∀ {xs : List V} {ds : List D}, TDs K H xs ds → xs.length = ds.length
  | _, _, .nil => rfl
  | _, _, .cons _ r => congrArg (· + 1) (TDs.len r)
theorem TDs.get : ∀ {xs : List V} {ds : List D} {i : Nat} {x : V}, TDs K H xs ds → xs[i]? = some x → ∃ d, ds[i]? = some d ∧ TD K H x d
  | _, _, i, _, .nil, h => by simp at h
  | _, _, 0, _, .cons x _, h => by cases h; exact ⟨_, rfl, x⟩
  | _, _, i + 1, _, .cons _ r, h => TDs.get (i := i) r (by simpa using h)
mutual
theorem TD.ext {H' : Hp} (e : Ext H H') : ∀ {x : V} {d : D}, TD K H x d → TD K H' x d
  | _, _, .oth a b c d f g h i => .oth (TyX.ext a e) b c d f g h fun q z => let ⟨o, h1, h2⟩ := i q z; ⟨o, e _ _ h1, h2⟩
  | _, _, .non => .non
  | _, _, .bl b => .bl b
  | _, _, .int i => .int i
  | _, _, .tup a b c => .tup (e _ _ a) b (TDs.ext e c)
theorem TDs.ext {H' : Hp} (e : Ext H H') : ∀ {xs : List V} {ds : List D}, TDs K H xs ds → TDs K H' xs ds
  | _, _, .nil => .nil
  | _, _, .cons a r => .cons (TD.ext e a) (TDs.ext e r)
end
mutual
theorem TD.th : ∀ {n : Nat} {x : V} {d : D}, TD K H x d → Th K H n x
  | _, _, _, .oth a b c d f g h i => Th.plain a (by rw [b, f, g]; rfl) (by rw [c, g]) d fun q z => let ⟨o, h1, h2, _⟩ := i q z; ⟨o, h1, h2⟩
  | _, _, _, .non => Th.non
  | _, _, _, .bl b => Th.bl b
  | _, _, _, .int i => Th.int i
  | 0, _, _, .tup a _ _ => Th.tup0 a
  | n + 1, _, _, .tup a _ c => Th.tup a (TDs.th c)
theorem TDs.th : ∀ {n : Nat} {xs : List V} {ds : List D}, TDs K H xs ds → ∀ y ∈ xs, Th K H n y
  | _, _, _, .nil => fun y h => nomatch h
  | n, _, _, .cons a r => fun y h => by
    rcases List.mem_cons.mp h with e | h
    · rw [e]; exact TD.th a
    · exact TDs.th r y h
end
end
def numD (m : Int) : D → Bool
  | .int i => decide (0 ≤ i) && decide (i ≤ m)
  | _ => false
theorem num_td {K : PySem.W.Frag} {H : Hp} {m : Int} {x : V} {d : D} (h : TD K H x d) : numV m x = numD m d := by
  cases h with
  | oth a b c d f g h i => cases x <;> first | rfl | cases f
  | non => rfl
  | bl b => rfl
  | int i => rfl
  | tup a b c => rfl
theorem numD_true {m : Int} {d : D} : numD m d = true ↔ ∃ i, d = .int i ∧ 0 ≤ i ∧ i ≤ m := by
  cases d <;> simp [numD]
/-- an ascending tuple of numbers up to m -/
def AscP (m : Int) (d : D) : Prop := ∃ ns : List Int, d = .tup (ns.map .int) ∧ (∀ n ∈ ns, 0 ≤ n ∧ n ≤ m) ∧ ns.Pairwise (· < ·)
def spAsc (K : PySem.W.Frag) : Sp := fun vs H Q _ => ∃ (m : Int) (x : V) (d : D), vs = [.int m, x] ∧ TD K H x d ∧ ∀ (bb : Bool) (H' : Hp), (bb = true ↔ AscP m d) → Ext H H' → Q (.bl bb) H'
theorem adj_pairwise : ∀ (ns : List Int), (∀ p ∈ ns.zip ns.tail, p.1 < p.2) ↔ ns.Pairwise (· < ·)
  | [] => by simp
  | [n] => by simp
  | n :: m :: r => by
    have ih := adj_pairwise (m :: r)
    constructor
    · intro h
      have hm : n < m := h (n, m) (by simp)
      have hr := ih.mp fun p hp => h p (by
        show p ∈ (n, m) :: (m :: r).zip r
        exact List.mem_cons_of_mem _ hp)
      refine List.pairwise_cons.mpr ⟨fun a ha => ?_, hr⟩
      rcases List.mem_cons.mp ha with rfl | ha
      · exact hm
      · exact Int.lt_trans hm ((List.pairwise_cons.mp hr).1 a ha)
    · intro h p hp
      obtain ⟨h1, h2⟩ := List.pairwise_cons.mp h
      have hp' : p ∈ (n, m) :: (m :: r).zip r := hp
      rcases List.mem_cons.mp hp' with rfl | hp'
      · exact h1 m List.mem_cons_self
      · exact ih.mpr h2 p hp'
theorem low_ints {m : Int} : ∀ {ds : List D}, (∀ y ∈ ds, numD m y = true) → ∃ ns : List Int, ds = ns.map .int ∧ ∀ n ∈ ns, 0 ≤ n ∧ n ≤ m
  | [], _ => ⟨[], rfl, fun n h => by cases h⟩
  | y :: ys, h => by
    obtain ⟨i, rfl, h1, h2⟩ := numD_true.mp (h y List.mem_cons_self)
    obtain ⟨ns, rfl, h3⟩ := low_ints (ds := ys) fun z hz => h z (List.mem_cons_of_mem _ hz)
    refine ⟨i :: ns, rfl, fun n hn => ?_⟩
    rcases List.mem_cons.mp hn with rfl | hn
    · exact ⟨h1, h2⟩
    · exact h3 n hn
theorem ints_td {K : PySem.W.Frag} {H : Hp} : ∀ {ns : List Int} {xs : List V}, TDs K H xs (ns.map .int) → xs = ns.map V.int
  | [], _, .nil => rfl
  | n :: ns, _, .cons (.int _) r => by rw [List.map_cons, ints_td r]
theorem td_ints {K : PySem.W.Frag} {H : Hp} : ∀ (ns : List Int), TDs K H (ns.map V.int) (ns.map .int)
  | [] => .nil
  | n :: ns => .cons (.int n) (td_ints ns)
theorem dint_inj : ∀ {ns ks : List Int}, ns.map D.int = ks.map D.int → ns = ks
  | [], [], _ => rfl
  | n :: ns, k :: ks, h => by
    injection h with h1 h2
    injection h1 with h1
    rw [h1, dint_inj h2]
  | [], k :: ks, h => by cases h
  | n :: ns, [], h => by cases h
theorem map_int_get {ns : List Int} {i : Nat} {x : V} (h : (ns.map V.int)[i]? = some x) : ∃ n, ns[i]? = some n ∧ x = .int n := by
  rw [List.getElem?_map] at h
  cases e : ns[i]? with
  | none => rw [e] at h; cases h
  | some n => rw [e] at h; cases h; exact ⟨n, rfl, rfl⟩
/-- zip of a tuple and a shorter one -/
theorem lc_zipM {K : PySem.W.Frag} {a b : Addr} {xs ys : List V} {g : TG} {tt : L2.TT} {te : TE} {vs : List Nat} {τ : L2.St} {H1 : Hp} {D : Addr} {Qd : Hp → Prop} (len : ys.length ≤ xs.length) (Pv : Nat → Hp → Prop) (h0 : Pv 0 (upd H1 D (.lst [])))
    (hq : ∀ i H, Pv i H → SqT K H a xs ∧ SqT K H b ys)
    (hs : ∀ i x y t H, xs[i]? = some x → ys[i]? = some y → Pv i H → H t = none → g (.ref t) (wipe τ vs) (upd H t (.tup [x, y])) fun σ2 H2 => wipe σ2 vs = wipe τ vs ∧ tt σ2 H2 fun c H3 =>
      if c = true then te σ2 H3 fun z H4 => ∃ acc, H4 D = some (.lst acc) ∧ acc.length < sizeLine ∧ Pv (i + 1) (upd H4 D (.lst (acc ++ [z]))) else Pv (i + 1) H3) (hd : ∀ H, Pv ys.length H → Qd H) :
    ∃ W : Nat → Nat → Hp → Prop, (∃ m, W 0 m (upd H1 D (.lst []))) ∧ ∀ i m H, W i m H →
      ((RZ.ItzT K a b).stop i H ∧ Qd H) ∨ ((RZ.ItzT K a b).go i H ∧ ∃ Nx : Hp → Prop, (∀ H', Nx H' → ∃ m', m' < m ∧ W (i + 1) m' H') ∧ ∀ x H', (RZ.ItzT K a b).yld i H x H' → g x (wipe τ vs) H' fun σ2 H2 => wipe σ2 vs = wipe τ vs ∧ tt σ2 H2 fun c H3 =>
        if c = true then te σ2 H3 fun z H4 => ∃ acc, H4 D = some (.lst acc) ∧ acc.length < sizeLine ∧ Nx (upd H4 D (.lst (acc ++ [z]))) else Nx H3) := by
  refine ⟨fun i m H => m + i = ys.length ∧ Pv i H, ⟨ys.length, rfl, h0⟩, ?_⟩
  rintro i m H ⟨em, p⟩
  obtain ⟨qa, qb⟩ := hq i H p
  cases m with
  | zero =>
    have e : i = ys.length := by omega
    subst e
    exact .inl ⟨⟨xs, ys, qa, qb, .inr (Nat.le_refl _)⟩, hd H p⟩
  | succ k =>
    have lb : i < ys.length := by omega
    have la : i < xs.length := by omega
    have ea : xs[i]? = some xs[i] := List.getElem?_eq_getElem la
    have eb : ys[i]? = some ys[i] := List.getElem?_eq_getElem lb
    refine .inr ⟨⟨xs, ys, _, _, qa, qb, ea, eb⟩, Pv (i + 1), fun H' p' => ⟨k, Nat.lt_succ_self k, by omega, p'⟩, fun v H' y => ?_⟩
    obtain ⟨t, x', y', rfl, nt, rfl, f1, f2⟩ := y
    exact hs i x' y' t H (f1 xs qa) (f2 ys qb) p nt
/-- isinstance(x, tuple) -/
def isT : D → Bool | .tup _ => true | _ => false
theorem td_isT {K : PySem.W.Frag} {H : Hp} {x : V} {d : D} (h : TD K H x d) : ∃ t, TyX K H x t ∧ PySem.W.kitOne K t (.type "tuple") = some (isT d) := by
  cases h with
  | oth a b c d f g h i => exact ⟨_, a, d⟩
  | non => exact ⟨_, .base .non, kit_ty (show kitB "NoneType" "tuple" = some false by decide +kernel)⟩
  | bl b => exact ⟨_, .base (.bl b), kit_ty (show kitB "bool" "tuple" = some false by decide +kernel)⟩
  | int i => exact ⟨_, .base (.int i), kit_ty (show kitB "int" "tuple" = some false by decide +kernel)⟩
  | tup a b c => exact ⟨_, .base (.tup a), kit_ty (show kitB "tuple" "tuple" = some true by decide +kernel)⟩
structure MoreC (mg : Str → Option Value) : Prop where
  zip : mg "zip" = none
section
variable {P : Program} {w : World} {K : PySem.W.Frag} {mg : Str → Option Value} {base : Heap}
abbrev ascN : List Str := ["most", "thing", "item", "after"]
theorem scAsc : FnScope ascN ["most", "thing"] (defScope sAsc) := ⟨rfl, rfl, rfl, by decide +kernel, rfl, by decide +kernel, by decide +kernel⟩
theorem ok_asc {f : Addr} {fd : FuncData} (F : L2.Fun K "is_ascending" "is_ascending" sAsc f fd) (T : Gb mg) (M : MoreC mg) (cN : Cal P w K mg base 2 "is_number" (spNumber K) []) : FnOk P w K mg base CX0 3 f fd ["most", "thing"] (spAsc K) := by
  refine F.ok scAsc (fun vs H Q E h => ?_) (fun cdv A outer s H vs Q E hr h => ?_)
  · obtain ⟨m, x, d, rfl, _⟩ := h
    rfl
  · obtain ⟨m, x, d, rfl, td, k⟩ := h
    obtain ⟨t, ty, kt⟩ := td_isT td
    refine ⟨_, pss_cons (ps_if (PW.pt (pw_or (pt_not (pt_val (pe_callB call_isi (by rfl) T.isi (by decide +kernel) (pa_cons (pv 1) (pa_cons (pe_bltn (v := .ty "tuple") (by rfl) T.tup (by decide +kernel) rfl) pa_nil))))) (pw_or1 (pt_not (pt_val (pe_callB (cr_all rfl) (by rfl) T.all (by decide +kernel) (pa_cons (pe_lc (own := [("item", 2)]) (g := gName 2) (tt := tYes) rfl scAsc.nd (pi_tup (pv 1)) (blkOk_by (N := ascN) (sc := defScope sAsc) (by decide +kernel)) (fun _ _ _ _ _ => (pg_name (i := 2) scAsc.nd rfl (Or.inl rfl))) (fun _ _ _ _ _ => pts_nil) (fun _ _ _ _ _ => (C8.pe_c cN hr (by decide) (by rfl) (pa_cons (pv 0) (pa_cons (pv 2) pa_nil))))) pa_nil))))))) (pss_one (ps_ret pe_bl)) pss_nil)
      (pss_one (ps_ret (pe_callB (cr_all rfl) (by rfl) T.all (by decide +kernel) (pa_cons (pe_lc (own := [("item", 2), ("after", 3)]) (g := gTup K 2 (gCons (gName 2) (gCons (gName 3) gNil))) (tt := tYes) rfl scAsc.nd (RZ.pi_zipA (by rfl) M.zip (pa_cons (pv 1) (pa_cons (pe_slice sl_tupA (pv 1) (po_some pe_int) po_none) pa_nil))) (blkOk_by (N := ascN) (sc := defScope sAsc) (by decide +kernel)) (fun _ _ _ _ _ => (pg_tup rfl (pgs_cons (pg_name (i := 2) scAsc.nd rfl (Or.inl rfl)) (pgs_cons (pg_name (i := 3) scAsc.nd rfl (Or.inl rfl)) pgs_nil)))) (fun _ _ _ _ _ => pts_nil) (fun _ _ _ _ _ => (pe_cmpR op_lt (pv 2) (pv 3) (nomark _)))) pa_nil)))), ?_⟩
    cases hd : isT d with
    | false =>
      rw [hd] at kt
      refine ⟨_, rfl, x, .ty "tuple", t, .type "tuple", _, rfl, .ty _, ty, kt, _, rfl, ?_⟩
      exact iteT (iteT (k false H ⟨fun z => Bool.noConfusion z, fun ⟨ns, e, _⟩ => by rw [e] at hd; cases hd⟩ Ext.rfl'))
    | true =>
      rw [hd] at kt
      cases td with
      | tup ha len ts =>
        rename_i a xs ds
        refine ⟨_, rfl, _, .ty "tuple", t, .type "tuple", _, rfl, .ty _, ty, kt, _, rfl, ?_⟩
        refine iteF ?_
        refine ⟨_, rfl, a, rfl, ⟨_, SqT.of ha⟩, fun D hD => ?_⟩
        have hda : a ≠ D := ne_of_none ha hD
        have ld := ts.len
        refine lc_tup (K := K) (a := a) (xs := xs) (fun i H' => H' = upd H D (.lst (((ds.take i).map (numD m)).map V.bl))) (by simp) (fun i H' _ e => by subst e; exact SqT.of (by rw [upd_ne hda]; exact ha)) ?_ ?_
        · rintro i y H' hi rfl
          refine ⟨rfl, tyes_in ?_⟩
          obtain ⟨d, hd, tdd⟩ := ts.get hi
          have lt := (List.getElem?_eq_some_iff.mp hd).1
          refine ⟨_, rfl, _, rfl, m, y, rfl, TD.th (tdd.ext (Ext.upd hD)), _, upd_same, small1000 (by simp; omega), ?_⟩
          rw [upd_upd, List.take_succ, hd, num_td tdd]
          simp
        · rintro H' rfl
          rw [ld, List.take_of_length_le (Nat.le_refl _)]
          have e1 : Ext H (upd H D (.lst ((ds.map (numD m)).map V.bl))) := Ext.upd hD
          have hD1 : (upd H D (.lst ((ds.map (numD m)).map V.bl))) D = some (.lst ((ds.map (numD m)).map V.bl)) := upd_same
          generalize upd H D (.lst ((ds.map (numD m)).map V.bl)) = H1 at *
          cases ball : (ds.map (numD m)).all id with
          | false =>
            refine ⟨D, _, rfl, SqL.of hD1, false, congrArg V.bl ball, ?_⟩
            refine iteT ?_
            refine k false H1 ⟨fun z => Bool.noConfusion z, fun ⟨ns, e, lo, _⟩ => ?_⟩ e1
            injection e with e
            subst e
            have : (List.map (numD m) (List.map V44.G.D.int ns)).all id = true := List.all_eq_true.mpr fun b hb => by
              obtain ⟨y, hy, rfl⟩ := List.mem_map.mp hb
              obtain ⟨n, hn, rfl⟩ := List.mem_map.mp hy
              exact numD_true.mpr ⟨n, rfl, (lo n hn).1, (lo n hn).2⟩
            rw [this] at ball
            cases ball
          | true =>
            refine ⟨D, _, rfl, SqL.of hD1, true, congrArg V.bl ball, ?_⟩
            refine iteF ?_
            obtain ⟨ns, rfl, low⟩ := low_ints fun y hy => List.all_eq_true.mp ball (numD m y) (List.mem_map_of_mem hy)
            have ex := ints_td ts
            subst ex
            refine ⟨_, rfl, _, rfl, 1, rfl, ?_⟩
            dsimp only [tNoPart]
            refine sl_any (K := K) (lo := some 1) (hi := none) (e1 _ _ ha) fun q H2 e3 hq => ?_
            have ct : cutV (ns.map V.int) (some 1) none = ns.tail.map V.int := by
              unfold cutV
              rw [show (1 : Int) = ((1 : Nat) : Int) from rfl, HT.sIx_nat, HT.sIx_none, List.take_of_length_le (by rw [List.length_drop]; exact Nat.le_refl _)]
              cases ns with
              | nil => rfl
              | cons n r =>
                rw [show min 1 (List.map V.int (n :: r)).length = 1 by simp]
                rfl
            rw [ct] at hq
            have ha2 := e3 _ _ (e1 _ _ ha)
            refine ⟨a, q, _, _, rfl, .inr ⟨SqT.of ha2, SqT.of hq, fun D2 nD2 => ?_⟩⟩
            refine lc_zipM (K := K) (a := a) (b := q) (xs := ns.map V.int) (ys := ns.tail.map V.int) (by rw [List.length_map, List.length_map, List.length_tail]; omega) (fun i H' => Ext H2 H' ∧ H' D2 = some (.lst ((((ns.zip ns.tail).take i).map fun p => decide (p.1 < p.2)).map V.bl))) ⟨Ext.upd nD2, upd_same⟩ (fun i H' z => ⟨SqT.of (z.1 _ _ ha2), SqT.of (z.1 _ _ hq)⟩) ?_ ?_
            · rintro i u v t' H' hu hv ⟨ex, hD2⟩ nt'
              obtain ⟨n, hn, rfl⟩ := map_int_get hu
              obtain ⟨m', hm, rfl⟩ := map_int_get hv
              refine ⟨t', _, rfl, SqT.of upd_same, rfl, _, _, rfl, _, _, rfl, rfl, rfl, tyes_in ?_⟩
              have hz : (ns.zip ns.tail)[i]? = some (n, m') := List.getElem?_zip_eq_some.mpr ⟨hn, hm⟩
              have li := (List.getElem?_eq_some_iff.mp hn).1
              rw [List.length_map] at len
              refine ⟨_, rfl, _, rfl, _, _, rfl, rfl, _, Ext.upd nt' _ _ hD2, small1000 (by rw [List.length_map, List.length_map, List.length_take]; omega), fun b' o eo => ?_, ?_⟩
              · rw [upd_ne (ne_of_none eo nD2)]
                exact Ext.upd nt' _ _ (ex _ _ eo)
              · rw [upd_same, List.take_succ, hz, List.map_append, List.map_append]
                rfl
            · rintro H' ⟨ex, hD2⟩
              have lz : (ns.zip ns.tail).length ≤ (ns.tail.map V.int).length := by rw [List.length_zip, List.length_map]; omega
              rw [List.take_of_length_le lz] at hD2
              refine ⟨D2, _, rfl, SqL.of hD2, ?_⟩
              refine k _ H' ?_ (e1.trans (e3.trans ex))
              constructor
              · intro z
                refine ⟨ns, rfl, low, (adj_pairwise ns).mp fun p hp => ?_⟩
                have := List.all_eq_true.mp z (decide (p.1 < p.2)) (List.mem_map_of_mem hp)
                exact of_decide_eq_true this
              · rintro ⟨ms, e, _, pw⟩
                injection e with e
                rw [← dint_inj e] at pw
                refine List.all_eq_true.mpr fun bb hb => ?_
                obtain ⟨p, hp, rfl⟩ := List.mem_map.mp hb
                exact decide_eq_true ((adj_pairwise ns).mpr pw p hp)
      | _ => cases hd
end
end V44.G

set_option Elab.async false
set_option linter.all false
set_option maxRecDepth 100000
set_option maxHeartbeats 4000000
set_option pp.maxSteps 100
/-! The picture of a tower. -/
namespace V44
open PySem L2
abbrev sTP : Stmt := top 59
/-- stops of a tower of n cells -/
def StopsP (n : Int) (d : G.D) : Prop := G.AscP n d ∧ ∀ ds, d = .tup ds → 1 ≤ ds.length ∧ ds.length ≤ 8
def spTP (K : PySem.W.Frag) (CT NP NN NS : Addr) : Sp := fun vs H Q E => ∃ (p b : Addr) (ll : List (List Int)) (x y z : V) (d : G.D), vs = [.ref p, x, y, z] ∧ TowAt CT H p b ∧ TR H b ll ∧ Bare H b ∧ GoodT ll ∧ ll.length ≤ 40 ∧ Th K H 0 x ∧ Th K H 0 y ∧ G.TD K H z d ∧
  (∀ H', primeV x = false → Ext H H' → E (.ref NP) Option.none H') ∧ (∀ H', primeV x = true → numV 3 y = false → Ext H H' → E (.ref NN) Option.none H') ∧ (∀ H', primeV x = true → numV 3 y = true → ¬ StopsP (ll.length : Int) d → Ext H H' → E (.ref NS) Option.none H') ∧
  ∀ (q : Addr) (H' : Hp), primeV x = true → numV 3 y = true → StopsP (ll.length : Int) d → Ext H H' → Q (.ref q) H'
theorem TabS.put {CT l t : Addr} {J : Hp} {pr wd : Int} {h M : Nat} {xs : List V} {o : HO} (hl : J l = some (.lst xs)) (x : TabS CT J t pr wd h M) : TabS CT (upd J l o) t pr wd h M := by
  obtain ⟨b, rs, ⟨dx, q1⟩, q2, q3, q4, q5⟩ := x
  have pt : ∀ {q : Addr} {u : HO}, J q = some u → (∀ ys, u ≠ .lst ys) → (upd J l o) q = some u := fun {q u} h1 h2 => by
    rw [upd_ne fun z => by rw [z, hl] at h1; injection h1 with h1; exact h2 _ h1.symm]
    exact h1
  exact ⟨b, rs, ⟨dx, pt q1 (fun _ z => nomatch z)⟩, pt q2 (fun _ z => nomatch z), q3, fun r hr => let ⟨xs, q6, q7⟩ := q4 r hr; ⟨xs, pt q6 (fun _ z => nomatch z), q7⟩, q5⟩
theorem PicS.put {CP CT l p wb : Addr} {J : Hp} {pr : Int} {n : Nat} {xs : List V} {o : HO} (hl : J l = some (.lst xs)) (x : PicS CP CT J p wb pr n) : PicS CP CT (upd J l o) p wb pr n := by
  obtain ⟨sz, tb, ss, ts, ⟨dx, q1⟩, q2, q3, q4, q5, q6⟩ := x
  have pt : ∀ {q : Addr} {u : HO}, J q = some u → (∀ ys, u ≠ .lst ys) → (upd J l o) q = some u := fun {q u} h1 h2 => by
    rw [upd_ne fun z => by rw [z, hl] at h1; injection h1 with h1; exact h2 _ h1.symm]
    exact h1
  exact ⟨sz, tb, ss, ts, ⟨dx, pt q1 (fun _ z => nomatch z)⟩, pt q2 (fun _ z => nomatch z), q3, pt q4 (fun _ z => nomatch z), q5, fun t ht => let ⟨wd, h, a, b⟩ := q6 t ht; ⟨wd, h, a, b.put hl⟩⟩
section
variable {P : Program} {w : World} {K : PySem.W.Frag} {mg : Str → Option Value} {base : Heap}
abbrev tpN : List Str := ["tower", "prime", "deep", "stops", "pairs", "web", "found", "born", "gone"]
theorem scTP : FnScope tpN ["tower", "prime", "deep", "stops"] (defScope sTP) := ⟨rfl, rfl, rfl, by decide +kernel, rfl, by decide +kernel, by decide +kernel⟩
theorem ok_tp {f fI fB CT CW CP CTb NP NN NS : Addr} {fd fdI fdB : FuncData} (F : L2.Fun K "tower_picture" "tower_picture" sTP f fd) (T : Gb mg) (W : TowK K mg CT) (M8 : ∃ t, mg "MOST_STOPS" = some (.int 8 t)) (NSC : ErrC K mg "NoStops" NS fI) (FI : FnOk P w K mg base CX0 1 fI fdI ["self"] spF0) (bI : Binds K fdI ["self"] [])
    (FB : FnOk P w K mg base (L2.CX P w) 4 fB fdB ["tower", "prime", "deep"] (spBars K CT NP NN)) (mB : mg "tower_bars" = some (.ref fB)) (kB : PySem.W.keepIn K (.ref fB) = true) (bB : Binds K fdB ["tower", "prime", "deep"] [])
    (cA : Cal P w K mg base 3 "is_ascending" (G.spAsc K) []) (cL : Cal P w K mg base 6 "line" (spLine CW) []) (cO : Cal P w K mg base 8 "bar_over" (spOver CP CW CTb) []) (cB : Cal P w K mg base 7 "laid_beside" (spLaid CP CW CTb) []) : FnOk P w K mg base (L2.CX P w) 9 f fd ["tower", "prime", "deep", "stops"] (spTP K CT NP NN NS) := by
  obtain ⟨t8, h8⟩ := M8
  refine F.okX scTP (fun vs H Q E h => ?_) (fun cdv A outer s H vs Q E hr h => ?_)
  · obtain ⟨p, b, ll, x, y, z, d, rfl, _⟩ := h
    rfl
  · obtain ⟨p, b, ll, x, y, z, d, rfl, tow, tr, bare, gd, l40, tx, ty, td, kP, kN, kS, k⟩ := h
    have hr2 : Room 2 _ := hr.mono (by decide)
    have hrB : Room 4 _ := hr.mono (by decide)
    obtain ⟨as, hb, pt⟩ := id tr
    have la : as.length = ll.length := Paired.length pt
    refine ⟨_, pss_cons (ps_set (i := 4) scTP.nd rfl (Or.inl rfl) (pe_call FB hrB (by rfl) mB kB bB .nil (passes_call (takes_of rfl rfl rfl rfl) (fun _ _ _ _ h => h)) (pa_cons (pv 0) (pa_cons (pv 1) (pa_cons (pv 2) pa_nil)))))
      (pss_cons (ps_if (PW.pt (pw_or (pt_not (pt_val (C8.pe_c cA hr (by decide) (by rfl) (pa_cons (pe_callB call_len_seq (by rfl) T.len PySem.boot_len (pa_cons (pe_fld (pv 0) rfl) pa_nil)) (pa_cons (pv 3) pa_nil))))) (pw_or1 (pt_not (pt_chain op_le op_le pe_int (pe_callB call_len_seq (by rfl) T.len PySem.boot_len (pa_cons (pv 3) pa_nil)) (pe_glob (v := .int 8) rfl h8 ⟨_, rfl⟩)))))) (pss_one (ps_raise_v H K (takes_of rfl rfl rfl rfl) rfl rfl (pe_exv0 NSC.ex NSC.iC NSC.tI FI hr2 bI pass0 (by rfl) NSC.gC))) pss_nil)
      (pss_cons (ps_set (i := 5) scTP.nd rfl (Or.inl rfl) (C8.pe_c cL hr (by decide) (by rfl) (pa_cons (pe_op op_repS pe_str (pe_op op_sub (pe_callB call_len_seq (by rfl) T.len PySem.boot_len (pa_cons (pv 3) pa_nil)) pe_int)) pa_nil)))
      (pss_cons (ps_set (i := 6) scTP.nd rfl (Or.inl rfl) (pe_lst pa_nil))
      (pss_cons (ps_for (passes_of rfl) rfl (pi_tup (pv 4)) (pg_tup rfl (pgs_cons (pg_name (i := 7) scTP.nd rfl (Or.inl rfl)) (pgs_cons (pg_name (i := 8) scTP.nd rfl (Or.inl rfl)) pgs_nil)))
      (pss_one (ps_expr (pe_bm PySem.F.plainAttrs_list PySem.F.slot_list_extend PySem.F.type_list_extend mt_extend (pv 6) (pa_cons (C8.pe_c cO hr (by decide) (by rfl) (pa_cons (pv 5) (pa_cons (pv 1) (pa_cons (pv 3) (pa_cons (pv 7) (pa_cons (pv 8) pa_nil)))))) pa_nil)))))
      (pss_one (ps_ret (C8.pe_c cB hr (by decide) (by rfl) (pa_cons (pv 5) (pa_cons (pv 1) (pa_cons (pv 6) pa_nil)))))))))), ?_⟩
    refine ⟨_, rfl, _, rfl, _, rfl, p, b, ll, x, y, rfl, tow, tr, bare, gd, l40, tx, ty, kP, kN, fun tb xs H1 hx hy e1 htb lx bx => ?_⟩
    obtain ⟨dx, hp⟩ := tow
    have raise : ∀ H2, Ext H H2 → ¬ StopsP (ll.length : Int) d → ∀ H', Ext H H' → E (.ref NS) Option.none H' := fun H2 _ no H' e => kS H' hx hy no e
    refine ⟨_, rfl, p, CT, dx, _, _, rfl, e1 _ _ hp, W.cl, W.nC, cf_cells _, b, _, rfl, .inr (.inl (rd_ext e1 hb)), _, rfl, ((as.map V.ref).length : Int), z, d, rfl, td.ext e1, fun bb H2 hbb e2 => ⟨_, rfl, ?_⟩⟩
    rw [List.length_map, la] at hbb
    have e12 := e1.trans e2
    cases bb with
    | false => exact iteT (iteT (raise0 NSC e12 fun H' e => kS H' hx hy (fun sp => by have := hbb.mpr sp.1; cases this) e))
    | true =>
      have asc := hbb.mp rfl
      obtain ⟨ns, ed, hns, hpw⟩ := id asc
      subst ed
      cases td with
      | @tup a ys ds ha hl ts =>
        have ey := G.ints_td ts
        subst ey
        have ha2 := e12 _ _ ha
        refine iteF ?_
        have lsz : (ns.map V.int).length = ns.length := List.length_map ..
        have lD : (ns.map G.D.int).length = ns.length := List.length_map ..
        refine ⟨_, rfl, a, _, rfl, .inr (SqT.of ha2), _, _, rfl, rfl, _, rfl, ?_⟩
        refine ite2 (fun h1 => ?_) (fun h1 => ?_)
        rotate_left
        · refine ⟨_, rfl, iteT (raise0 NSC e12 fun H' e => kS H' hx hy (fun sp => ?_) e)⟩
          have := (sp.2 _ rfl).1
          rw [lD] at this
          exact h1 (decide_eq_true (by rw [lsz]; omega))
        refine ⟨_, _, rfl, rfl, _, rfl, ?_⟩
        refine ite2 (fun h2 => ?_) (fun h2 => ?_)
        · refine raise0 NSC e12 fun H' e => kS H' hx hy (fun sp => ?_) e
          have := (sp.2 _ rfl).2
          rw [lD] at this
          have h3 : decide (((ns.map V.int).length : Int) ≤ 8) = true := decide_eq_true (by rw [lsz]; omega)
          rw [h3] at h2
          cases h2
        have c1 : 1 ≤ ns.length := by have := of_decide_eq_true h1; rw [lsz] at this; omega
        have c8 : ns.length ≤ 8 := by
          cases hd : decide (((ns.map V.int).length : Int) ≤ 8) with
          | false => rw [hd] at h2; exact absurd rfl h2
          | true => have := of_decide_eq_true hd; rw [lsz] at this; omega
        have sp : StopsP (ll.length : Int) (.tup (ns.map .int)) := ⟨asc, fun ds e => by cases e; rw [lD]; exact ⟨c1, c8⟩⟩
        obtain ⟨pr, rfl, hpr⟩ := primeV_true.mp hx
        refine ⟨_, rfl, a, _, rfl, .inr (SqT.of ha2), _, _, rfl, rfl, 62, ((ns.map V.int).length : Int) - 1, rfl, rfl, by rw [lsz]; omega, by rw [lsz]; omega, (((ns.map V.int).length : Int) - 1).toNat, rfl, by rw [lsz]; omega, fun wb H3 e3 lw => ⟨Nat.zero_le _, fun l nl => ?_⟩⟩
        have en : (((ns.map V.int).length : Int) - 1).toNat + 1 = ns.length := by rw [lsz]; omega
        rw [en] at lw
        have xl := Ext.upd (o := .lst []) nl
        have e4 := (e12.trans e3).trans xl
        have nlH : H l = Option.none := none_of_ext (e12.trans e3) nl
        have hl0 : (upd H3 l (.lst [])) l = some (.lst []) := upd_same
        have htb3 := xl _ _ (e3 _ _ (e2 _ _ htb))
        have bx3 : ∀ z ∈ xs, BarV (upd H3 l (.lst [])) z := fun z hz => (bx z hz).mono (TExt.of ((e2.trans e3).trans xl))
        have lw3 := lw.ext xl
        have ha3 := xl _ _ (e3 _ _ ha2)
        generalize upd H3 l (.lst []) = H4 at *
        have kt : ∀ {J : Hp} {q : Addr} {ys : List V}, GoD l H4 J → H4 q = some (.tup ys) → J q = some (.tup ys) := fun {J q ys} g h => g _ _ (fun z => by rw [z, hl0] at h; cases h) h
        have lwJ : ∀ {J : Hp}, GoD l H4 J → LineW CW J wb ns.length := fun {J} g => by
          obtain ⟨dw, ab, q1, arr, q2, q3, q4⟩ := lw3
          exact ⟨dw, ab, g _ _ (fun z => by rw [z, hl0] at q1; cases q1) q1, arr, kt g q2, q3, fun i a h => kt g (q4 i a h)⟩
        refine ⟨_, rfl, tb, rfl, ⟨_, SqT.of htb3⟩, ?_⟩
        refine for_it walk_tup (fun i σ' J => ∃ (v7 v8 : Option V) (as' : List Addr), σ' = [some (.ref p), some (.int pr), some y, some (.ref a), some (.ref tb), some (.ref wb), some (.ref l), v7, v8] ∧ GoD l H4 J ∧ J l = some (.lst (as'.map V.ref)) ∧ as'.length ≤ i ∧ ∀ q ∈ as', PicS CP CTb J q wb pr ns.length)
          ⟨_, _, [], rfl, (fun _ _ _ h => h), hl0, Nat.le_refl _, (fun _ h => nomatch h)⟩ (fun i σ' J _ ⟨_, _, _, _, g, _⟩ => SqT.of (kt g htb3)) ?_ ?_
        · rintro i z σ' J J' hi ⟨v7, v8, as', rfl, g, hlJ, las, gp⟩ ⟨rfl, hz⟩
          obtain ⟨q, i0, v, rfl, hq, hv⟩ := bx3 z (List.mem_of_getElem? hz)
          refine ⟨q, _, rfl, SqT.of (kt g hq), rfl, _, _, rfl, _, _, rfl, rfl, ?_⟩
          refine ⟨_, rfl, .inl ⟨rfl, _, SqL.of hlJ⟩, _, rfl, _, rfl, _, rfl, _, rfl, _, rfl, wb, a, pr, i0, v, ns, ns.length, rfl, lwJ g, c1, c8, hpr, kt g ha3, by omega, hv, fun l2 as2 J2 x2 hl2 l21 gp2 => ?_⟩
          have hlJ2 := x2 _ _ hlJ
          refine ⟨l, l2, _, _, rfl, rfl, hlJ2, hl2, Nat.le_trans (show _ ≤ 1000 by rw [List.length_map, List.length_map]; omega) (by decide), ?_⟩
          refine ⟨_, _, as' ++ as2, rfl, (g.trans (GoD.of x2)).trans GoD.put, by rw [upd_same, List.map_append], by rw [List.length_append]; omega, fun r hr' => ?_⟩
          rcases List.mem_append.mp hr' with h | h
          · exact ((gp r h).ext x2).put hlJ2
          · exact (gp2 r h).put hlJ2
        · rintro σ' J ⟨v7, v8, as', rfl, g, hlJ, las, gp⟩
          have eJ : Ext H J := fun c o h => g _ _ (fun z => by rw [z, nlH] at h; cases h) (e4 _ _ h)
          exact ⟨_, rfl, _, rfl, _, rfl, wb, l, pr, ns.length, as', rfl, lwJ g, c1, c8, hpr, hlJ, by omega, gp, fun q H' e' => k q H' hx hy sp (eJ.trans e')⟩
end
end V44

set_option Elab.async false
set_option linter.all false
set_option maxRecDepth 100000
set_option maxHeartbeats 4000000
set_option pp.maxSteps 100
/-! Two cells exchanged, or not. -/
namespace V44
open PySem L2
abbrev sExch : Stmt := top 60
theorem cat_rd {K : PySem.W.Frag} {H : Hp} {Q : VK} {a b : Addr} {xs ys : List V} (ha : Rd H a (.tup xs)) (hb : Rd H b (.tup ys)) (len : xs.length + ys.length ≤ 1000) (k : ∀ (p : Addr) (H' : Hp), Ext H H' → Rd H' p (.tup (xs ++ ys)) → Q (.ref p) H') : rCatA K (.ref a) (.ref b) H Q :=
  ⟨a, b, xs, ys, rfl, rfl, .inl ha, .inl hb, Nat.le_trans len (by decide), fun e => by subst e; exact k b H Ext.rfl' hb, fun _ e => by subst e; exact k a H Ext.rfl' (by rw [List.append_nil]; exact ha), fun _ _ p np => k p _ (Ext.upd np) (.inl upd_same)⟩
def spEx (K : PySem.W.Frag) (CT NN NX : Addr) : Sp := fun vs H Q E => ∃ (p b : Addr) (ll : List (List Int)) (x : V), vs = [.ref p, x] ∧ TowAt CT H p b ∧ TR H b ll ∧ GoodT ll ∧ ll.length ≤ 40 ∧ Th K H 0 x ∧
  (∀ H', numV ((ll.length : Int) - 2) x = false → Ext H H' → E (.ref NN) Option.none H') ∧
  (∀ (k : Nat) (l1 l2 : List Int) (H' : Hp), x = .int (k : Int) → ll[k]? = some l1 → ll[k + 1]? = some l2 → l1 ∈ facesL l2 → Ext H H' → E (.ref NX) Option.none H') ∧
  ∀ (k : Nat) (l1 l2 : List Int) (q : Addr) (H' : Hp), x = .int (k : Int) → ll[k]? = some l1 → ll[k + 1]? = some l2 → l1 ∉ facesL l2 → Ext H H' → Q (.ref q) H'
section
variable {P : Program} {w : World} {K : PySem.W.Frag} {mg : Str → Option Value} {base : Heap}
theorem scExch : FnScope ["tower", "at", "first", "second"] ["tower", "at"] (defScope sExch) := ⟨rfl, rfl, rfl, by decide +kernel, rfl, by decide +kernel, by decide +kernel⟩
theorem ok_exch {f fT fI CT NN NX : Addr} {fd fdT fdI : FuncData} (F : L2.Fun K "exchanged" "exchanged" sExch f fd) (T : Gb mg) (W : TowK K mg CT) (N : ErrC K mg "NoExchange" NX fI) (N2 : ErrC K mg "NoNumber" NN fI) (FI : FnOk P w K mg base CX0 1 fI fdI ["self"] spF0) (bI : Binds K fdI ["self"] [])
    (cN : Cal P w K mg base 2 "is_number" (spNumber K) []) (cF : Cal P w K mg base 1 "faces" spFaces []) (MT : Mk K CT fT) (FT : FnOk P w K mg base CX0 5 fT fdT ["self", "cells"] (spTowG CT)) (bT : Binds K fdT ["self", "cells"] []) :
    FnOk P w K mg base (L2.CX P w) 7 f fd ["tower", "at"] (spEx K CT NN NX) := by
  refine F.okX scExch (fun vs H Q E h => ?_) (fun cdv A outer s H vs Q E hr h => ?_)
  · obtain ⟨p, b, ll, x, rfl, _⟩ := h
    rfl
  · obtain ⟨p, b, ll, x, rfl, ⟨dx, hp⟩, ⟨as, hb, pt⟩, gd, l40, tx, kN, kX, kQ⟩ := h
    have hr2 : Room 2 _ := hr.mono (by decide)
    refine ⟨_, pss_cons (ps_if (pt_not (pt_val (C8.pe_c cN hr (by decide) (by rfl) (pa_cons (pe_op op_sub (pe_callB call_len_seq (by rfl) T.len PySem.boot_len (pa_cons (pe_fld (pv 0) rfl) pa_nil)) pe_int) (pa_cons (pv 1) pa_nil))))) (pss_one (ps_raise_v H K (takes_of rfl rfl rfl rfl) rfl rfl (pe_exv0 N2.ex N2.iC N2.tI FI hr2 bI pass0 (by rfl) N2.gC))) pss_nil)
      (pss_cons (ps_par (i := 2) (j := 3) rfl scExch.nd rfl rfl (by decide) rfl rfl (pa_cons (pe_ix ix_tup (pe_fld (pv 0) rfl) (pv 1) (fun _ _ => rfl)) (pa_cons (pe_ix ix_tup (pe_fld (pv 0) rfl) (pe_op op_add (pv 1) pe_int) (fun _ _ => rfl)) pa_nil)) (by rfl))
      (pss_cons (ps_if (pt_cmpR (op_inD (u65 hr)) (pv 2) (C8.pe_c cF hr (by decide) (by rfl) (pa_cons (pv 3) pa_nil)) (by rfl)) (pss_one (ps_raise_v H K (takes_of rfl rfl rfl rfl) rfl rfl (pe_exv0 N.ex N.iC N.tI FI hr2 bI pass0 (by rfl) N.gC))) pss_nil)
      (pss_one (ps_ret (pe_make MT FT hr (by rfl) W.mgC bT .nil pass0 (pa_cons (pe_op op_catA (pe_op op_catA (pe_slice sl_tupA (pe_fld (pv 0) rfl) po_none (po_some (pv 1))) (pe_tup (pa_cons (pv 3) (pa_cons (pv 2) pa_nil)))) (pe_slice sl_tupA (pe_fld (pv 0) rfl) (po_some (pe_op op_add (pv 1) pe_int)) po_none)) pa_nil)))))), ?_⟩
    have ln : as.length = ll.length := Paired.length pt
    refine ⟨_, rfl, p, CT, dx, _, _, rfl, hp, W.cl, W.nC, cf_cells _, b, _, rfl, .inr (.inl hb), _, _, rfl, rfl, _, rfl, ((as.map V.ref).length : Int) - 2, x, rfl, tx, _, rfl, ?_⟩
    rw [List.length_map, ln]
    cases hx : numV ((ll.length : Int) - 2) x with
    | false => exact iteT (raise0 N2 Ext.rfl' fun H' e => kN H' hx e)
    | true =>
      refine iteF ?_
      obtain ⟨k0, rfl, k00, k01⟩ := numV_true.mp hx
      obtain ⟨k, rfl⟩ : ∃ k : Nat, k0 = (k : Int) := ⟨k0.toNat, by omega⟩
      have a1 : as[k]? = some as[k] := List.getElem?_eq_getElem (by omega)
      have a2 : as[k + 1]? = some as[k + 1] := List.getElem?_eq_getElem (by omega)
      generalize as[k] = c1 at *
      generalize as[k + 1] = c2 at *
      obtain ⟨l1, h1, hc1⟩ := pt.get a1
      obtain ⟨l2, h2, hc2⟩ := pt.get a2
      have v1 : (as.map V.ref)[k]? = some (.ref c1) := by rw [List.getElem?_map, a1]; rfl
      have v2 : (as.map V.ref)[k + 1]? = some (.ref c2) := by rw [List.getElem?_map, a2]; rfl
      refine ⟨_, rfl, p, CT, dx, _, _, rfl, hp, W.cl, W.nC, cf_cells _, _, rfl, b, _, _, _, rfl, rfl, .inl hb, at_of (j := k) (by omega) v1, ?_⟩
      refine ⟨_, rfl, p, CT, dx, _, _, rfl, hp, W.cl, W.nC, cf_cells _, _, rfl, _, _, rfl, rfl, b, _, _, _, rfl, rfl, .inl hb, at_of (j := k + 1) (by omega) v2, ?_⟩
      refine ⟨_, _, rfl, ?_⟩
      have cl2 := good_cells gd l2 (List.mem_of_getElem? h2)
      refine ⟨_, rfl, _, rfl, c2, l2, rfl, hc2, cl2.1, cl2.2.1, fun fl fs H1 e1 hf pf => ?_⟩
      refine in_L (e1 _ _ hc1) hf pf ⟨_, rfl, ?_⟩
      refine ite2 (fun z => ?_) (fun z => ?_)
      · exact raise0 N e1 fun H' e => kX k l1 l2 H' rfl h1 h2 (of_decide_eq_true z) e
      · have no : l1 ∉ facesL l2 := fun q => z (decide_eq_true q)
        obtain ⟨gs, _⟩ := good_swap gd h1 h2 no
        refine ⟨_, rfl, p, CT, dx, _, _, rfl, e1 _ _ hp, W.cl, W.nC, cf_cells _, _, rfl, (k : Int), rfl, ?_⟩
        refine sl_rd (K := K) (lo := none) (hi := some (k : Int)) (rd_ext e1 hb) fun q1 H2 x2 y2 => ?_
        refine ⟨_, rfl, _, rfl, by show 2 ≤ sizeLine; decide, fun t nt => ?_⟩
        have lc := cutV_length (as.map V.ref) none (some (k : Int))
        have ld := cutV_length (as.map V.ref) (some ((k : Int) + 2)) none
        rw [List.length_map] at lc ld
        refine cat_rd (rd_ext (Ext.upd nt) y2) (.inl upd_same) (by simp; omega) fun q2 H3 x3 y3 => ?_
        have e3 := e1.trans (x2.trans ((Ext.upd nt).trans x3))
        refine ⟨_, rfl, p, CT, dx, _, _, rfl, e3 _ _ hp, W.cl, W.nC, cf_cells _, _, rfl, _, _, rfl, rfl, (k : Int) + 2, rfl, ?_⟩
        dsimp only [tNoPart]
        refine sl_rd (K := K) (lo := some ((k : Int) + 2)) (hi := none) (rd_ext e3 hb) fun q3 H4 x4 y4 => ?_
        refine cat_rd (rd_ext x4 y3) y4 (by simp; omega) fun q4 H5 x5 y5 => ?_
        have e5 := e3.trans (x4.trans x5)
        have ecut : (cutV (as.map V.ref) none (some (k : Int)) ++ [V.ref c2, V.ref c1]) ++ cutV (as.map V.ref) (some ((k : Int) + 2)) none = (as.take k ++ ([c2, c1] ++ as.drop (k + 2))).map V.ref := by
          have s1 : HT.sIx (as.map V.ref).length (as.map V.ref).length (some (k : Int)) = k := by rw [HT.sIx_nat, List.length_map]; omega
          have s2 : HT.sIx (as.map V.ref).length 0 (some ((k : Int) + 2)) = k + 2 := by rw [show ((k : Int) + 2) = ((k + 2 : Nat) : Int) by omega, HT.sIx_nat, List.length_map]; omega
          unfold cutV
          rw [s1, s2, HT.sIx_none, HT.sIx_none, List.drop_zero, Nat.sub_zero, List.take_of_length_le (l := (as.map V.ref).drop (k + 2)) (by rw [List.length_drop]; exact Nat.le_refl _), List.append_assoc]
          simp [List.map_take, List.map_drop]
        rw [ecut] at y5
        have ptS : PT2 H5 (as.take k ++ ([c2, c1] ++ as.drop (k + 2))) (swapAt ll k l1 l2) := by
          have pm := PT2.mono (fun _ _ z => e5 _ _ z) pt
          exact p_app (p_take k pm) (p_app (.cons (e5 _ _ hc2) (.cons (e5 _ _ hc1) .nil)) (p_drop (k + 2) pm))
        have lS : (swapAt ll k l1 l2).length ≤ 40 := by
          rw [← show _ = _ from Paired.length ptS]
          simp only [List.length_append, List.length_take, List.length_drop, List.length_cons, List.length_nil]
          omega
        intro x dx' nx ndx nex
        have eM : Ext H5 (upd (upd H5 dx' (.own x)) x (.ins CT dx' [])) := (Ext.upd ndx).trans (Ext.upd (by rw [upd_ne nex.symm]; exact nx))
        refine ⟨x, dx', q4, _, rfl, upd_same, TR.ext eM ⟨_, y5, ptS⟩, lS, gs, fun H6 hw kp => ⟨rfl, ?_⟩⟩
        have e6 : Ext H5 H6 := fun c u hc => kp c u (ne_of_none hc nx) (eM _ _ hc)
        exact kQ k l1 l2 x H6 rfl h1 h2 no (e5.trans e6)
end
end V44

set_option Elab.async false
set_option linter.all false
set_option maxRecDepth 100000
set_option maxHeartbeats 4000000
set_option pp.maxSteps 100
/-! Things within things. -/
namespace V44.G
open PySem L2
abbrev sDeep : Stmt := top 67
section
variable {K : PySem.W.Frag} {S : Hp}
theorem TD.lst {p : Addr} {xs : List V} (h : S p = some (.lst xs)) : TD K S (.ref p) .oth := .oth (.base (.lst h)) (kit_ty (show kitB "list" "int" = some false by decide +kernel)) (kit_ty (show kitB "list" "bool" = some false by decide +kernel)) (kit_ty (show kitB "list" "tuple" = some false by decide +kernel)) rfl rfl (fun z => nomatch z) fun a e => by cases e; exact ⟨_, h, (fun _ z => nomatch z), fun _ z => nomatch z⟩
theorem TD.dct {p : Addr} {kvs : List (Key × V)} (h : S p = some (.dK kvs)) : TD K S (.ref p) .oth := .oth (.base (.dK h)) (kit_ty (show kitB "dict" "int" = some false by decide +kernel)) (kit_ty (show kitB "dict" "bool" = some false by decide +kernel)) (kit_ty (show kitB "dict" "tuple" = some false by decide +kernel)) rfl rfl (fun z => nomatch z) fun a e => by cases e; exact ⟨_, h, (fun _ z => nomatch z), fun _ z => nomatch z⟩
theorem TD.str (z : Str) : TD K S (.str z) .oth := .oth (.base (.str z)) (kit_ty (show kitB "str" "int" = some false by decide +kernel)) (kit_ty (show kitB "str" "bool" = some false by decide +kernel)) (kit_ty (show kitB "str" "tuple" = some false by decide +kernel)) rfl rfl (fun z => nomatch z) fun a e => nomatch e
/-- a tuple of ints -/
theorem TD.ints {p : Addr} {ns : List Int} (h : S p = some (.tup (ns.map V.int))) (hl : ns.length ≤ 1000) : TD K S (.ref p) (.tup (ns.map .int)) := .tup h (by rw [List.length_map]; exact hl) (td_ints ns)
end
/-- some thing -/
def AnyD (K : PySem.W.Frag) (S : Hp) (x : V) : Prop := ∃ d, TD K S x d
theorem AnyD.ext {K : PySem.W.Frag} {S S' : Hp} {x : V} (e : Ext S S') (h : AnyD K S x) : AnyD K S' x := let ⟨d, h⟩ := h; ⟨d, h.ext e⟩
theorem anys {K : PySem.W.Frag} {S : Hp} : ∀ {xs : List V}, (∀ x ∈ xs, AnyD K S x) → ∃ ds, TDs K S xs ds
  | [], _ => ⟨[], .nil⟩
  | x :: xs, h => by
    obtain ⟨d, hd⟩ := h x List.mem_cons_self
    obtain ⟨ds, hs⟩ := anys (xs := xs) fun y hy => h y (List.mem_cons_of_mem _ hy)
    exact ⟨d :: ds, .cons hd hs⟩
theorem AnyD.tup {K : PySem.W.Frag} {S : Hp} {p : Addr} {xs : List V} (h : S p = some (.tup xs)) (hl : xs.length ≤ 1000) (it : ∀ x ∈ xs, AnyD K S x) : AnyD K S (.ref p) := let ⟨ds, hs⟩ := anys it; ⟨_, .tup h hl hs⟩
def spDeep (K : PySem.W.Frag) : Sp := fun vs H Q _ => ∃ (r c : Addr), vs = [.ref r] ∧ BagAt H r c ∧ ∀ (x : V) (H' : Hp), Go r c H H' → AnyD K (Off r c H') x → Q x H'
section
variable {P : Program} {w : World} {K : PySem.W.Frag} {mg : Str → Option Value} {base : Heap}
abbrev deepN : List Str := ["_law_bag_here", "_law_found", "_law_turn"]
theorem scDeep : FnScope deepN ["_law_bag_here"] (defScope sDeep) := ⟨rfl, rfl, rfl, by decide +kernel, rfl, by decide +kernel, by decide +kernel⟩
theorem ok_deep {f : Addr} {fd : FuncData} (F : L2.Fun K "_law_deep" "_law_deep" sDeep f fd) (T : Gb mg) (cP : Cal P w K mg base 1 "_law_pick" spPick []) (cS : Cal P w K mg base 2 "_law_some" spSome []) : FnOk P w K mg base CX0 3 f fd ["_law_bag_here"] (spDeep K) := by
  refine F.ok scDeep (fun vs H Q E h => ?_) (fun cdv A outer s H vs Q E hr h => ?_)
  · obtain ⟨r, c, rfl, _⟩ := h
    rfl
  · obtain ⟨r, c, rfl, bag, k⟩ := h
    refine ⟨_, pss_cons (ps_set (i := 1) scDeep.nd rfl (Or.inl rfl) (C8.pe_c cS hr (by decide) (by rfl) (pa_cons (pv 0) (pa_cons (pe_lst (pa_cons pe_int (pa_cons pe_str (pa_cons pe_non pa_nil)))) pa_nil))))
      (pss_cons (ps_for PassesOwn.never rfl (pi_range1 (by rfl) T.rng (pa_cons (pe_op op_add pe_int (C8.pe_c cP hr (by decide) (by rfl) (pa_cons (pv 0) (pa_cons pe_int pa_nil)))) pa_nil)) (pg_name (i := 2) scDeep.nd rfl (Or.inl rfl))
      (pss_one (ps_set (i := 1) scDeep.nd rfl (Or.inl rfl) (pe_ifExp (pt_cmpR op_eq (C8.pe_c cP hr (by decide) (by rfl) (pa_cons (pv 0) (pa_cons pe_int pa_nil))) pe_int (nomark _)) (pe_lst (pa_cons (pv 1) pa_nil)) (pe_tup (pa_cons (pv 1) pa_nil))))))
      (pss_one (ps_ret (pv 1)))), ?_⟩
    refine ⟨_, rfl, by show 3 ≤ sizeLine; decide, fun l nl => ?_⟩
    have nla := bag.ne nl
    have gl := Go.new (o := .lst [.int 0, .str "x", .non]) bag nl
    refine ⟨r, c, l, _, rfl, gl.1, nla.1, nla.2, upd_same, by simp, by show 3 ≤ 1000; decide, fun x H1 hx g1 => ?_⟩
    have ax : AnyD K (Off r c H1) x := by
      simp only [List.mem_cons, List.not_mem_nil, or_false] at hx
      rcases hx with rfl | rfl | rfl
      · exact ⟨_, .int 0⟩
      · exact ⟨_, TD.str _⟩
      · exact ⟨_, .non⟩
    refine ⟨_, rfl, r, c, 38, rfl, g1.1, by decide, by decide, fun n H2 n0 n1 g2 => ⟨_, _, rfl, rfl, 1 + n, rfl, by omega, by omega, ?_⟩⟩
    refine for_range (lo := 0) (n := (1 + n).toNat) (fun i σ' H' => ∃ (y : V) (v : Option V), σ' = [some (.ref r), some y, v] ∧ Go r c H H' ∧ AnyD K (Off r c H') y) ⟨x, _, rfl, (gl.trans g1).trans g2, ax.ext g2.off⟩ ?_ ?_
    · rintro i σ' H' hi ⟨y, v, rfl, g, ay⟩
      refine ⟨_, rfl, r, c, 2, rfl, g.1, by decide, by decide, fun z H3 z0 z1 g3 => ⟨rfl, _, rfl, ?_⟩⟩
      have ay3 := ay.ext g3.off
      refine ite2 (fun _ => ?_) (fun _ => ?_)
      · refine ⟨_, rfl, by show 1 ≤ sizeLine; decide, fun p np => ?_⟩
        have gp := Go.new (o := .lst [y]) g3.1 np
        exact ⟨_, _, rfl, (g.trans g3).trans gp, _, TD.lst (off_at (g3.1.ne np) upd_same)⟩
      · refine ⟨_, rfl, by show 1 ≤ sizeLine; decide, fun p np => ?_⟩
        have gp := Go.new (o := .tup [y]) g3.1 np
        exact ⟨_, _, rfl, (g.trans g3).trans gp, AnyD.tup (off_tup gp.1 upd_same) (by show 1 ≤ 1000; decide) fun u hu => by rw [List.mem_singleton.mp hu]; exact ay3.ext gp.off⟩
    · rintro σ' H' ⟨y, v, rfl, g, ay⟩
      exact ⟨_, rfl, k y H' g ay⟩
end
end V44.G

set_option Elab.async false
set_option linter.all false
set_option maxRecDepth 100000
set_option maxHeartbeats 4000000
set_option pp.maxSteps 100
/-! The law's own judges. -/
namespace V44
open PySem L2
abbrev sLInt : Stmt := top 68
abbrev sWithin : Stmt := top 69
abbrev sLPrime : Stmt := top 70
abbrev sAre : Stmt := top 71
abbrev sFirst : Stmt := top 73
def withinV (a b : Int) : V → Bool
  | .int i => decide (a ≤ i) && decide (i ≤ b)
  | _ => false
theorem withinV_true {a b : Int} {x : V} : withinV a b x = true ↔ ∃ i, x = .int i ∧ a ≤ i ∧ i ≤ b := by
  cases x <;> simp [withinV]
theorem within_num {b : Int} (x : V) : withinV 0 b x = numV b x := by
  cases h : numV b x with
  | true => obtain ⟨i, rfl, h1, h2⟩ := numV_true.mp h; exact withinV_true.mpr ⟨i, rfl, h1, h2⟩
  | false =>
    cases q : withinV 0 b x with
    | false => rfl
    | true => obtain ⟨i, rfl, h1, h2⟩ := withinV_true.mp q; rw [numV_true.mpr ⟨i, rfl, h1, h2⟩] at h; cases h
def spWithin (K : PySem.W.Frag) : Sp := fun vs H Q _ => ∃ (x : V) (a b : Int), vs = [x, .int a, .int b] ∧ Th K H 0 x ∧ Q (.bl (withinV a b x)) H
def spLPrime (K : PySem.W.Frag) : Sp := fun vs H Q _ => ∃ x : V, vs = [x] ∧ Th K H 0 x ∧ ∀ H', Ext H H' → Q (.bl (primeV x)) H'
def spAre (K : PySem.W.Frag) : Sp := fun vs H Q _ => ∃ (x : V) (d : G.D) (n : Nat), vs = [x, .int (n : Int)] ∧ G.TD K H x d ∧ ∀ bb : Bool, (bb = true ↔ StopsP (n : Int) d) → Q (.bl bb) H
/-- the word of the first that is not right -/
def firstW : List (Bool × Str) → Str
  | [] => "let"
  | (b, z) :: r => if b = true then firstW r else z
def spFirst : Sp := fun vs H Q _ => ∃ (l : Addr) (as : List Addr) (ps : List (Bool × Str)), vs = [.ref l] ∧ H l = some (.lst (as.map V.ref)) ∧ Paired (fun a p => H a = some (.tup [.bl p.1, .str p.2])) as ps ∧ Q (.str (firstW ps)) H
theorem first_drop {ps : List (Bool × Str)} : ∀ {i : Nat}, (∀ j p, j < i → ps[j]? = some p → p.1 = true) → firstW ps = firstW (ps.drop i) := by
  intro i
  induction i generalizing ps with
  | zero => intro _; rfl
  | succ i ih =>
    intro h
    cases ps with
    | nil => rfl
    | cons p r =>
      obtain ⟨b, z⟩ := p
      have hb : b = true := h 0 (b, z) (Nat.zero_lt_succ i) rfl
      rw [firstW, if_pos hb, List.drop_succ_cons]
      exact ih fun j q hj hq => h (j + 1) q (by omega) hq
theorem isT_no {K : PySem.W.Frag} {H : Hp} {x : V} {d : G.D} (td : G.TD K H x d) : ∃ t, TyX K H x t ∧ PySem.W.kitOne K t (.type "tuple") = some (G.isT d) := G.td_isT td
section
variable {P : Program} {w : World} {K : PySem.W.Frag} {mg : Str → Option Value} {base : Heap}
theorem scLInt : FnScope ["_law_thing"] ["_law_thing"] (defScope sLInt) := ⟨rfl, rfl, rfl, by decide +kernel, rfl, by decide +kernel, by decide +kernel⟩
theorem ok_lint {f : Addr} {fd : FuncData} (F : L2.Fun K "_law_is_integer" "_law_is_integer" sLInt f fd) (T : Gb mg) : FnOk P w K mg base CX0 1 f fd ["_law_thing"] (spInteger K) := by
  refine F.ok scLInt (fun vs H Q E h => ?_) (fun cdv A outer s H vs Q E hr h => ?_)
  · obtain ⟨x, rfl, _⟩ := h
    rfl
  · obtain ⟨x, rfl, th, k⟩ := h
    unfold Th at th
    obtain ⟨t, ty, ki, kb, _⟩ := th
    refine ⟨_, pss_one (ps_ret (pe_and (pe_callB call_isi (by rfl) T.isi (by decide +kernel) (pa_cons (pv 0) (pa_cons (pe_bltn (v := .ty "int") (by rfl) T.int (by decide +kernel) rfl) pa_nil)))
      (pe_one (pe_not (pe_callB call_isi (by rfl) T.isi (by decide +kernel) (pa_cons (pv 0) (pa_cons (pe_bltn (v := .ty "bool") (by rfl) T.bool (by decide +kernel) rfl) pa_nil))))))), ?_⟩
    refine ⟨_, rfl, x, .ty "int", t, .type "int", _, rfl, .ty _, ty, ki, _, rfl, ?_⟩
    cases x <;> first
      | exact iteF k
      | (refine iteT ⟨_, rfl, _, .ty "bool", t, .type "bool", _, rfl, .ty _, ty, kb, _, rfl, ?_⟩; exact k)
theorem scWithin : FnScope ["_law_thing", "_law_least", "_law_most"] ["_law_thing", "_law_least", "_law_most"] (defScope sWithin) := ⟨rfl, rfl, rfl, by decide +kernel, rfl, by decide +kernel, by decide +kernel⟩
theorem ok_within {f : Addr} {fd : FuncData} (F : L2.Fun K "_law_is_within" "_law_is_within" sWithin f fd) (cI : Cal P w K mg base 1 "_law_is_integer" (spInteger K) []) : FnOk P w K mg base CX0 2 f fd ["_law_thing", "_law_least", "_law_most"] (spWithin K) := by
  refine F.ok scWithin (fun vs H Q E h => ?_) (fun cdv A outer s H vs Q E hr h => ?_)
  · obtain ⟨x, a, b, rfl, _⟩ := h
    rfl
  · obtain ⟨x, a, b, rfl, th, k⟩ := h
    refine ⟨_, pss_one (ps_ret (pe_and (C8.pe_c cI hr (by decide) (by rfl) (pa_cons (pv 0) pa_nil)) (pe_one (pe_chain op_le op_le (pv 1) (pv 0) (pv 2))))), ?_⟩
    refine ⟨_, rfl, x, rfl, th, _, rfl, ?_⟩
    cases hx : isI x with
    | false =>
      have e : withinV a b x = false := by cases x <;> first | rfl | cases hx
      rw [e] at k
      exact iteF k
    | true =>
      cases x with
      | int i =>
        refine iteT ⟨_, rfl, _, rfl, _, _, rfl, rfl, _, rfl, ?_⟩
        have e : withinV a b (.int i) = (decide (a ≤ i) && decide (i ≤ b)) := rfl
        rw [e] at k
        cases h1 : decide (a ≤ i) with
        | false => rw [h1, Bool.false_and] at k; exact iteF k
        | true => rw [h1, Bool.true_and] at k; exact iteT ⟨_, rfl, _, _, rfl, rfl, k⟩
      | _ => cases hx
theorem scLPrime : FnScope ["_law_thing"] ["_law_thing"] (defScope sLPrime) := ⟨rfl, rfl, rfl, by decide +kernel, rfl, by decide +kernel, by decide +kernel⟩
theorem ok_lprime {f : Addr} {fd : FuncData} (F : L2.Fun K "_law_is_prime" "_law_is_prime" sLPrime f fd) (cI : Cal P w K mg base 1 "_law_is_integer" (spInteger K) []) : FnOk P w K mg base CX0 2 f fd ["_law_thing"] (spLPrime K) := by
  refine F.ok scLPrime (fun vs H Q E h => ?_) (fun cdv A outer s H vs Q E hr h => ?_)
  · obtain ⟨x, rfl, _⟩ := h
    rfl
  · obtain ⟨x, rfl, th, k⟩ := h
    refine ⟨_, pss_one (ps_ret (pe_and (C8.pe_c cI hr (by decide) (by rfl) (pa_cons (pv 0) pa_nil)) (pe_one (pe_cmpR op_in_seq (pv 0) (pe_tup (pa_cons pe_int (pa_cons pe_int (pa_cons pe_int (pa_cons pe_int (pa_cons pe_int (pa_cons pe_int pa_nil))))))) (by rfl))))), ?_⟩
    refine ⟨_, rfl, x, rfl, th, _, rfl, ?_⟩
    cases hx : isI x with
    | false =>
      rw [primeV_int hx] at k
      exact iteF (k _ Ext.rfl')
    | true =>
      cases x with
      | int i =>
        refine iteT ⟨_, rfl, by show 6 ≤ sizeLine; decide, fun t nt => ⟨t, _, rfl, .inr (SqT.of upd_same), rfl, rfl, ?_⟩⟩
        have := in_primes i
        show Q (.bl (inV (.int i) _)) _
        rw [this]
        exact k _ (Ext.upd nt)
      | _ => cases hx
abbrev areN : List Str := ["_law_thing", "_law_many", "_law_last", "_law_moment"]
theorem scAre : FnScope areN ["_law_thing", "_law_many"] (defScope sAre) := ⟨rfl, rfl, rfl, by decide +kernel, rfl, by decide +kernel, by decide +kernel⟩
theorem ok_are {f : Addr} {fd : FuncData} (F : L2.Fun K "_law_are_stops" "_law_are_stops" sAre f fd) (T : Gb mg) (cW : Cal P w K mg base 2 "_law_is_within" (spWithin K) []) : FnOk P w K mg base CX0 3 f fd ["_law_thing", "_law_many"] (spAre K) := by
  refine F.ok scAre (fun vs H Q E h => ?_) (fun cdv A outer s H vs Q E hr h => ?_)
  · obtain ⟨x, d, n, rfl, _⟩ := h
    rfl
  · obtain ⟨x, d, n, rfl, td, k⟩ := h
    obtain ⟨t, ty, kt⟩ := G.td_isT td
    refine ⟨_, pss_cons (ps_if (PW.pt (pw_or (pt_not (pt_val (pe_callB call_isi (by rfl) T.isi (by decide +kernel) (pa_cons (pv 0) (pa_cons (pe_bltn (v := .ty "tuple") (by rfl) T.tup (by decide +kernel) rfl) pa_nil))))) (pw_or1 (pt_not (pt_chain op_le op_le pe_int (pe_callB call_len_seq (by rfl) T.len PySem.boot_len (pa_cons (pv 0) pa_nil)) pe_int))))) (pss_one (ps_ret pe_bl)) pss_nil)
      (pss_cons (ps_set (i := 2) scAre.nd rfl (Or.inl rfl) (pe_un un_neg pe_int))
      (pss_cons (ps_for PassesOwn.never rfl (pi_tup (pv 0)) (pg_name (i := 3) scAre.nd rfl (Or.inl rfl))
      (pss_cons (ps_if (pt_not (pt_val (C8.pe_c cW hr (by decide) (by rfl) (pa_cons (pv 3) (pa_cons (pe_op op_add (pv 2) pe_int) (pa_cons (pv 1) pa_nil)))))) (pss_one (ps_ret pe_bl)) pss_nil)
      (pss_one (ps_set (i := 2) scAre.nd rfl (Or.inl rfl) (pv 3)))))
      (pss_one (ps_ret pe_bl)))), ?_⟩
    have no : ¬ StopsP (n : Int) d → Q (.bl false) H := fun h => k false ⟨fun z => (by cases z), fun z => absurd z h⟩
    refine ⟨_, rfl, x, .ty "tuple", t, .type "tuple", _, rfl, .ty _, ty, kt, _, rfl, ?_⟩
    cases td with
    | @tup a xs ds ha hl ts =>
      refine iteF ⟨_, rfl, a, _, rfl, .inr (SqT.of ha), _, _, rfl, rfl, _, rfl, ?_⟩
      have ld := ts.len
      refine ite2 (fun h1 => ?_) (fun h1 => ?_)
      rotate_left
      · refine ⟨_, rfl, iteT (no fun sp => ?_)⟩
        have := (sp.2 _ rfl).1
        exact h1 (decide_eq_true (by omega))
      refine ⟨_, _, rfl, rfl, _, rfl, ?_⟩
      refine ite2 (fun h2 => ?_) (fun h2 => ?_)
      · refine no fun sp => ?_
        have := (sp.2 _ rfl).2
        have h3 : decide ((xs.length : Int) ≤ 8) = true := decide_eq_true (by omega)
        rw [h3] at h2
        cases h2
      have c1 : 1 ≤ ds.length := by have := of_decide_eq_true h1; omega
      have c8 : ds.length ≤ 8 := by
        cases hd : decide ((xs.length : Int) ≤ 8) with
        | false => rw [hd] at h2; exact absurd rfl h2
        | true => have := of_decide_eq_true hd; omega
      refine ⟨1, rfl, _, rfl, a, rfl, ⟨_, SqT.of ha⟩, ?_⟩
      refine for_it walk_tup (fun i σ' J => ∃ (ns : List Int) (last : Int) (v3 : Option V), σ' = [some (.ref a), some (.int (n : Int)), some (.int last), v3] ∧ J = H ∧ ds.take i = ns.map .int ∧ ns.length = i ∧ (∀ m ∈ ns, 0 ≤ m ∧ m ≤ (n : Int) ∧ m ≤ last) ∧ ns.Pairwise (· < ·) ∧ -1 ≤ last ∧ (last = -1 ∨ last ∈ ns))
        ⟨[], -1, _, rfl, rfl, rfl, rfl, (fun _ h => nomatch h), List.Pairwise.nil, Int.le_refl _, .inl rfl⟩ (fun i σ' J _ ⟨_, _, _, _, e, _⟩ => by subst e; exact SqT.of ha) ?_ ?_
      · rintro i y σ' J J' hi ⟨ns, last, v3, rfl, rfl, tk, lns, bd, pw, l0, lm⟩ ⟨rfl, hy⟩
        obtain ⟨d', hd', td'⟩ := ts.get hy
        refine ⟨_, rfl, _, rfl, _, _, rfl, rfl, _, rfl, y, last + 1, (n : Int), rfl, td'.th, _, rfl, ?_⟩
        cases hw : withinV (last + 1) (n : Int) y with
        | false =>
          refine iteT (no fun sp => ?_)
          obtain ⟨⟨ks, ek, hk, pk⟩, _⟩ := sp
          injection ek with ek
          subst ek
          rw [List.getElem?_map] at hd'
          cases hki : ks[i]? with
          | none => rw [hki] at hd'; cases hd'
          | some kk =>
            rw [hki] at hd'
            cases hd'
            cases td'
            have en : ks.take i = ns := by
              rw [← List.map_take] at tk
              exact G.dint_inj tk
            have bk := hk kk (List.mem_of_getElem? hki)
            have big : last < kk := by
              rcases lm with rfl | lm
              · omega
              · have li := (List.getElem?_eq_some_iff.mp hki)
                have li1 := li.1
                rw [← en] at lm
                obtain ⟨j, hj, ej⟩ := List.mem_iff_getElem.mp lm
                have hj' : j < i := Nat.lt_of_lt_of_le hj (List.length_take_le i ks)
                rw [List.getElem_take] at ej
                have := List.pairwise_iff_getElem.mp pk j i (by omega) li.1 hj'
                rw [ej, li.2] at this
                exact this
            have := withinV_true.mpr ⟨kk, rfl, (by omega : last + 1 ≤ kk), bk.2⟩
            rw [this] at hw
            cases hw
        | true =>
          obtain ⟨v, rfl, v1, v2⟩ := withinV_true.mp hw
          cases td' with
          | int _ =>
            refine iteF ⟨_, rfl, ns ++ [v], v, _, rfl, rfl, ?_, by rw [List.length_append, lns]; rfl, fun m hm => ?_, ?_, by omega, .inr (by simp)⟩
            · rw [List.take_succ, hd', tk, List.map_append]
              rfl
            · rcases List.mem_append.mp hm with q | q
              · have := bd m q
                omega
              · rw [List.mem_singleton.mp q]
                omega
            · rw [List.pairwise_append]
              refine ⟨pw, List.pairwise_singleton _ _, fun m hm m2 hm2 => ?_⟩
              rw [List.mem_singleton.mp hm2]
              have := bd m hm
              omega
          | oth a' b' c' d2 e' => cases e'
      · rintro σ' J ⟨ns, last, v3, rfl, rfl, tk, lns, bd, pw, l0, lm⟩
        rw [ld, List.take_of_length_le (Nat.le_refl _)] at tk
        exact k true ⟨fun _ => ⟨⟨ns, by rw [tk], fun m hm => ⟨(bd m hm).1, (bd m hm).2.1⟩, pw⟩, fun es e => by cases e; exact ⟨c1, c8⟩⟩, fun _ => rfl⟩
    | _ => exact iteT (iteT (no fun sp => by obtain ⟨⟨ks, ek, _⟩, _⟩ := sp; cases ek))
theorem scFirst : FnScope ["_law_pairs", "_law_is_right", "_law_word_here"] ["_law_pairs"] (defScope sFirst) := ⟨rfl, rfl, rfl, by decide +kernel, rfl, by decide +kernel, by decide +kernel⟩
theorem ok_first {f : Addr} {fd : FuncData} (F : L2.Fun K "_law_first" "_law_first" sFirst f fd) (T : Gb mg) : FnOk P w K mg base CX0 1 f fd ["_law_pairs"] spFirst := by
  refine F.ok scFirst (fun vs H Q E h => ?_) (fun cdv A outer s H vs Q E hr h => ?_)
  · obtain ⟨l, as, ps, rfl, _⟩ := h
    rfl
  · obtain ⟨l, as, ps, rfl, hl, pp, k⟩ := h
    have la : as.length = ps.length := Paired.length pp
    refine ⟨_, pss_cons (ps_for PassesOwn.never rfl (pi_list (pv 0)) (pg_tup rfl (pgs_cons (pg_name (i := 1) scFirst.nd rfl (Or.inl rfl)) (pgs_cons (pg_name (i := 2) scFirst.nd rfl (Or.inl rfl)) pgs_nil)))
      (pss_one (ps_if (pt_not (pt_val (pv 1))) (pss_one (ps_ret (pv 2))) pss_nil)))
      (pss_one (ps_ret pe_str)), ?_⟩
    refine ⟨_, rfl, l, rfl, ⟨_, SqL.of hl⟩, ?_⟩
    refine for_it walk_list (fun i σ' J => ∃ (v1 v2 : Option V), σ' = [some (.ref l), v1, v2] ∧ J = H ∧ ∀ j p, j < i → ps[j]? = some p → p.1 = true) ⟨_, _, rfl, rfl, fun j p hj => absurd hj (Nat.not_lt_zero j)⟩ (fun i σ' J _ ⟨_, _, _, e, _⟩ => by subst e; exact SqL.of hl) ?_ ?_
    · rintro i y σ' J J' hi ⟨v1, v2, rfl, rfl, h⟩ ⟨rfl, hy⟩
      obtain ⟨a, ha, rfl⟩ := ref_get hy
      obtain ⟨pq, hpq, haq⟩ := L2.paired_get pp ha
      refine ⟨a, _, rfl, SqT.of haq, rfl, _, _, rfl, _, _, rfl, rfl, ?_⟩
      refine ⟨_, rfl, _, rfl, ?_⟩
      cases hb : pq.1 with
      | false =>
        refine iteT ⟨_, rfl, ?_⟩
        have e := first_drop (i := i) h
        have lt := (List.getElem?_eq_some_iff.mp hpq)
        rw [List.drop_eq_getElem_cons lt.1, lt.2] at e
        obtain ⟨b0, z0⟩ := pq
        simp only at hb
        subst hb
        rw [firstW, if_neg Bool.false_ne_true] at e
        rw [← e]
        exact k
      | true =>
        refine iteF ⟨_, _, rfl, rfl, fun j p hj hp => ?_⟩
        by_cases c : j = i
        · rw [c, hpq] at hp
          cases hp
          exact hb
        · exact h j p (by omega) hp
    · rintro σ' J ⟨v1, v2, rfl, rfl, h⟩
      have e := first_drop (i := ps.length) fun j p hj => h j p (by rw [List.length_map, la]; exact hj)
      rw [List.drop_length] at e
      have e2 : firstW ps = "let" := e
      rw [e2] at k
      exact k
end
end V44

set_option Elab.async false
set_option linter.all false
set_option maxRecDepth 100000
set_option maxHeartbeats 4000000
set_option pp.maxSteps 60
/-! What a lambda's call tells: _law_word. -/
namespace V44
open PySem L2 LamX
abbrev sWord : Stmt := top 72
section
open PySem.Spec PyProof.Rows
/-- isinstance of a caught exception that has no dict -/
def rIsX0 (K : PySem.W.Frag) (C a : Addr) (cls : Value) (d : Option Addr) : List V → Hp → VK → Prop := fun xs H Q => ∃ (c : V) (cv : Value) (b : Bool), xs = [.ref a, c] ∧ ClsV c cv ∧ cls = .ref C ∧ d = none ∧ PySem.W.kitOne K (.ref C) cv = some b ∧ Q (.bl b) H
variable {X : Cx} {a C : Addr} {oe : Obj} {cls : Value} {d : Option Addr} {pn : List (Addr × Obj)}
theorem call_isX0 (T : ExIs X.K C) (hz : Zc cls d oe) (hf : ∃ vs, oe.data = .fields vs) : CallR (X.suite a ((a, oe) :: pn)) (.builtin "isinstance") (rIsX0 X.K C a cls d) := by
  rintro pins s σ H xs us Q I r ⟨c, cv, b, rfl, hc, rfl, rfl, e, q⟩
  obtain ⟨u1, u2, rfl, r1, r2⟩ := vals2 r
  obtain rfl : u1 = Value.ref a := r1
  obtain rfl := hc.eq r2
  obtain ⟨there, _⟩ := I.pin (a, oe) (List.mem_append_left _ List.mem_cons_self)
  obtain ⟨vs, dt⟩ := hf
  have J : PySem.W.InstAt s.heap a oe C none := ⟨there, hz.1, by unfold PySem.W.notCls; rw [dt] <;> rfl, by rw [hz.2]; trivial⟩
  exact PySem.W.kia_one (PySem.W.kitx_exc T.cls T.ga T.gt T.sb T.ha T.hn T.ht T.hm) I.kIn J e (fun z => nomatch z) fun tk => ⟨.bl b, H, I.tok tk, rfl, q⟩
/-- list.count of flat items -/
def rCntF (K : PySem.W.Frag) : V → List V → Hp → VK → Prop := fun x xs H Q => ∃ (l : Addr) (ys : List V) (y : V), x = .ref l ∧ xs = [y] ∧ SqL K H l ys ∧ flatV y = true ∧ ys.all flatV = true ∧ Q (.int ((ys.countP fun z => eqV z y) : Nat)) H
theorem count_eqU {x : V} : ∀ {xs : List V} {us : List Value}, Vals xs us → xs.all flatV = true → us.countP (eqU x) = xs.countP fun y => eqV y x
  | _, _, .nil, _ => rfl
  | y :: xs, u :: us, .cons r t, f => by
    rw [List.all_cons, Bool.and_eq_true] at f
    rw [List.countP_cons, List.countP_cons, count_eqU t f.2, eqU_of r f.1]
theorem mt_countF : MtR X "list.count" (rCntF X.K) := by
  rintro pins s σ H x xs v us Q I rx rxs ⟨l, ys, y, rfl, rfl, hs, fy, fys, q⟩
  obtain rfl : v = Value.ref l := rx
  obtain ⟨u, rfl, ru⟩ := rxs.one
  obtain ⟨its, rv, ⟨⟨cls', dd, data, sl⟩, n, ho, hc, hdn, hd⟩, hlen⟩ := I.list hs
  obtain rfl : cls' = _ := hc
  obtain rfl : data = _ := hd
  have all : ∀ w ∈ its.toArray, SeqAt.EqAt X.A.in1 s w u (eqU y w) := fun w hw => mem_eqAt ru fy rv fys w (by simpa using hw)
  refine call_meets PySem.F.slot_list_count ⟨_, ho, rfl⟩ PySem.F.entry_list_count (PySem.F.args_list_count_2 _ _) (SeqAt.list_countAt l its.toArray n dd sl u (eqU y)) ⟨ho, all, ?_⟩
  have e : its.toArray.toList.countP (eqU y) = ys.countP fun z => eqV z y := count_eqU rv fys
  exact ⟨.int ((ys.countP fun z => eqV z y) : Nat), H, I.tok _, ⟨s.toks, by rw [e]⟩, q⟩
/-- a block whose reading may know how many slots there are -/
theorem pss_len {st : List Stmt} {t : TS} (n : Nat) (hn : X.N.length = n) (h : PSs X st t) : PSs X st (fun D σ H => σ.length = n → t D σ H) := ⟨fun pins s σ H D I hw => h.run pins s σ H D I (hw (I.len.trans hn))⟩
end
/-- what _law_word makes of a call -/
def TTword (CP CN CS CX : Addr) : (XK → Hp → VK → Prop) → Hp → VK → Prop := fun tl H Q => tl (fun cls d H' => d = none ∧ ((cls = .ref CP ∧ ∀ H'', Ext H' H'' → Q (.str "prime") H'') ∨ (cls = .ref CN ∧ ∀ H'', Ext H' H'' → Q (.str "number") H'') ∨ (cls = .ref CS ∧ ∀ H'', Ext H' H'' → Q (.str "stops") H'') ∨ (cls = .ref CX ∧ ∀ H'', Ext H' H'' → Q (.str "exchange") H''))) H (fun _ H' => ∃ v, some (some (V.str "let")) = some (some v) ∧ Q v H')
structure WordC (K : PySem.W.Frag) (mg : Str → Option Value) (CP CN CS CX CE fI : Addr) : Prop where
  p : ErrC K mg "NoPrime" CP fI
  n : ErrC K mg "NoNumber" CN fI
  s : ErrC K mg "NoStops" CS fI
  x : ErrC K mg "NoExchange" CX fI
  mE : mg "WebError" = some (.ref CE)
  ep : PySem.W.exmOne K (.ref CP) (.ref CE) = some true
  en : PySem.W.exmOne K (.ref CN) (.ref CE) = some true
  es : PySem.W.exmOne K (.ref CS) (.ref CE) = some true
  ex : PySem.W.exmOne K (.ref CX) (.ref CE) = some true
  pn : PySem.W.kitOne K (.ref CP) (.ref CN) = some false
  ps : PySem.W.kitOne K (.ref CP) (.ref CS) = some false
  px : PySem.W.kitOne K (.ref CP) (.ref CX) = some false
  np : PySem.W.kitOne K (.ref CN) (.ref CP) = some false
  ns : PySem.W.kitOne K (.ref CN) (.ref CS) = some false
  nx : PySem.W.kitOne K (.ref CN) (.ref CX) = some false
  sp : PySem.W.kitOne K (.ref CS) (.ref CP) = some false
  sn : PySem.W.kitOne K (.ref CS) (.ref CN) = some false
  sx : PySem.W.kitOne K (.ref CS) (.ref CX) = some false
  xp : PySem.W.kitOne K (.ref CX) (.ref CP) = some false
  xn : PySem.W.kitOne K (.ref CX) (.ref CN) = some false
  xs : PySem.W.kitOne K (.ref CX) (.ref CS) = some false
abbrev wordN : List Str := ["_law_asked", "_law_found", "e", "_law_are"]
theorem scWord : FnScope wordN ["_law_asked"] (defScope sWord) := ⟨rfl, rfl, rfl, by decide +kernel, rfl, by decide +kernel, by decide +kernel⟩
theorem four {σ : L2.St} (h : σ.length = 4) : ∃ x0 x1 x2 x3, σ = [x0, x1, x2, x3] := by
  match σ, h with
  | [x0, x1, x2, x3], _ => exact ⟨_, _, _, _, rfl⟩
theorem word_gives {X : Cx} {g CP CN CS CX CE fI : Addr} {cdg : Value} {q : Str} (T : Gb X.mg) (C : WordC X.K X.mg CP CN CS CX CE fI) : GivesTo X wordN "_law_word" (defScope sWord) g cdg (defBody sWord) "_law_asked" q (TTword CP CN CS CX) := by
  intro f c' s H Q tl act hc h
  refine ⟨_, pss_cons (ps_set (i := 1) scWord.nd rfl (Or.inl rfl) pe_str)
    (pss_cons (ps_try_as (X := (cxOf C8.CX0 X.prog X.w X.K X.mg X.base wordN "_law_word" (defScope sWord) g cdg X.A X.stack s H C8.E0).nox) (c := .ref CE) (i := 2)
        (tb := fun W D σ H => ∃ Ech : XK, (∀ cls d σ' H', Ech cls d H' → W cls d σ' H') ∧ σ[0]? = some (some (.ref f)) ∧ H c' = some (CodeO c' q) ∧ tl Ech H (fun _ H' => D.nx σ H'))
        rfl rfl scWord.nd rfl rfl ⟨rfl, by decide, .inl C.mE⟩ L2.takes0 (fun W pn xe tk _ => ⟨fun pins s' σ H' D I h' => ?_⟩)
        (fun a oe cls d pn hz hf => pss_len 4 rfl (pss_cons (ps_set (i := 3) scWord.nd rfl (Or.inl rfl) (pe_lst (pa_cons (pe_callB (CallR.or (call_isX0 C.p.is hz hf) (CallR.or (call_isX0 C.n.is hz hf) (CallR.or (call_isX0 C.s.is hz hf) (call_isX0 C.x.is hz hf)))) (by rfl) T.isi (by decide +kernel) (pa_cons (pv 2) (pa_cons (pe_glob (v := .ref CP) rfl C.p.gC rfl) pa_nil))) (pa_cons (pe_callB (CallR.or (call_isX0 C.p.is hz hf) (CallR.or (call_isX0 C.n.is hz hf) (CallR.or (call_isX0 C.s.is hz hf) (call_isX0 C.x.is hz hf)))) (by rfl) T.isi (by decide +kernel) (pa_cons (pv 2) (pa_cons (pe_glob (v := .ref CN) rfl C.n.gC rfl) pa_nil))) (pa_cons (pe_callB (CallR.or (call_isX0 C.p.is hz hf) (CallR.or (call_isX0 C.n.is hz hf) (CallR.or (call_isX0 C.s.is hz hf) (call_isX0 C.x.is hz hf)))) (by rfl) T.isi (by decide +kernel) (pa_cons (pv 2) (pa_cons (pe_glob (v := .ref CS) rfl C.s.gC rfl) pa_nil))) (pa_cons (pe_callB (CallR.or (call_isX0 C.p.is hz hf) (CallR.or (call_isX0 C.n.is hz hf) (CallR.or (call_isX0 C.s.is hz hf) (call_isX0 C.x.is hz hf)))) (by rfl) T.isi (by decide +kernel) (pa_cons (pv 2) (pa_cons (pe_glob (v := .ref CX) rfl C.x.gC rfl) pa_nil))) pa_nil))))))
          (pss_one (ps_set (i := 1) scWord.nd rfl (Or.inl rfl) (pe_ifExp (pt_cmpR (ta := tBM X.K "list" (rCntF X.K) (tVar 3) (tCons (tC (.bl true)) tNil)) op_eq (pe_bm PySem.F.plainAttrs_list PySem.F.slot_list_count PySem.F.type_list_count mt_countF (pv 3) (pa_cons pe_bl pa_nil)) pe_int (nomark _))
            (pe_ix (r := rIxL X.K) (ta := tLst (tCons (tC (.str "prime")) (tCons (tC (.str "number")) (tCons (tC (.str "stops")) (tCons (tC (.str "exchange")) tNil))))) (tb := tBM X.K "list" (rIndex X.K) (tVar 3) (tCons (tC (.bl true)) tNil)) ix_list (pe_lst (pa_cons pe_str (pa_cons pe_str (pa_cons pe_str (pa_cons pe_str pa_nil))))) (pe_bm PySem.F.plainAttrs_list PySem.F.slot_list_index PySem.F.type_list_index mt_index (pv 3) (pa_cons pe_bl pa_nil)) (fun _ _ => rfl)) pe_str))))))
    (pss_one (ps_ret (pv 1)))), ?_⟩
  · obtain ⟨Ech, hW, h1, h2, h3⟩ := h'
    exact (pss_one (ps_expr (act W pn xe Ech _ _ tk hW))).run pins s' σ H' D I ⟨h1, h2, h3⟩
  · refine ⟨fun cls d H' => d = none ∧ ((cls = .ref CP ∧ ∀ H'', Ext H' H'' → Q (.str "prime") H'') ∨ (cls = .ref CN ∧ ∀ H'', Ext H' H'' → Q (.str "number") H'') ∨ (cls = .ref CS ∧ ∀ H'', Ext H' H'' → Q (.str "stops") H'') ∨ (cls = .ref CX ∧ ∀ H'', Ext H' H'' → Q (.str "exchange") H'')), ?_, rfl, hc, h⟩
    rintro cls d σ' H' ⟨rfl, ⟨rfl, k⟩ | ⟨rfl, k⟩ | ⟨rfl, k⟩ | ⟨rfl, k⟩⟩
    · refine ⟨true, C.ep, fun _ a na hl => ?_, fun z => nomatch z⟩
      rw [List.length_set] at hl
      obtain ⟨x0, x1, x2, x3, rfl⟩ := four hl
      refine ⟨_, rfl, .inl ⟨.ref CP, .ref CP, true, rfl, .own CP, rfl, rfl, kit_same, ?_⟩⟩
      refine ⟨_, rfl, .inl ⟨.ref CN, .ref CN, false, rfl, .own CN, rfl, rfl, C.pn, ?_⟩⟩
      refine ⟨_, rfl, .inl ⟨.ref CS, .ref CS, false, rfl, .own CS, rfl, rfl, C.ps, ?_⟩⟩
      refine ⟨_, rfl, .inl ⟨.ref CX, .ref CX, false, rfl, .own CX, rfl, rfl, C.px, ?_⟩⟩
      refine ⟨by show 4 ≤ sizeLine; decide, fun l nl => ?_⟩
      have hl1 : (upd H' l (.lst [.bl true, .bl false, .bl false, .bl false])) l = some (.lst [.bl true, .bl false, .bl false, .bl false]) := upd_same
      refine ⟨_, rfl, .inl ⟨rfl, _, SqL.of hl1⟩, l, _, .bl true, rfl, rfl, SqL.of hl1, rfl, rfl, rfl, _, rfl, ?_⟩
      refine iteT ⟨by show 4 ≤ sizeLine; decide, fun l2 nl2 => ?_⟩
      have hl2 := Ext.upd (o := .lst [.str "prime", .str "number", .str "stops", .str "exchange"]) nl2 _ _ hl1
      refine ⟨_, rfl, .inl ⟨rfl, _, SqL.of hl2⟩, l, _, .bl true, 0, .bl true, rfl, rfl, SqL.of hl2, rfl, rfl, rfl, rfl, fun m z' hm hz => ?_, ?_⟩
      · exact absurd hm (Nat.not_lt_zero m)
      refine ⟨l2, _, _, _, rfl, rfl, SqL.of upd_same, rfl, ?_⟩
      exact ⟨_, rfl, k _ ((Ext.upd nl).trans (Ext.upd nl2))⟩
    · refine ⟨true, C.en, fun _ a na hl => ?_, fun z => nomatch z⟩
      rw [List.length_set] at hl
      obtain ⟨x0, x1, x2, x3, rfl⟩ := four hl
      refine ⟨_, rfl, .inr (.inl ⟨.ref CP, .ref CP, false, rfl, .own CP, rfl, rfl, C.np, ?_⟩)⟩
      refine ⟨_, rfl, .inr (.inl ⟨.ref CN, .ref CN, true, rfl, .own CN, rfl, rfl, kit_same, ?_⟩)⟩
      refine ⟨_, rfl, .inr (.inl ⟨.ref CS, .ref CS, false, rfl, .own CS, rfl, rfl, C.ns, ?_⟩)⟩
      refine ⟨_, rfl, .inr (.inl ⟨.ref CX, .ref CX, false, rfl, .own CX, rfl, rfl, C.nx, ?_⟩)⟩
      refine ⟨by show 4 ≤ sizeLine; decide, fun l nl => ?_⟩
      have hl1 : (upd H' l (.lst [.bl false, .bl true, .bl false, .bl false])) l = some (.lst [.bl false, .bl true, .bl false, .bl false]) := upd_same
      refine ⟨_, rfl, .inl ⟨rfl, _, SqL.of hl1⟩, l, _, .bl true, rfl, rfl, SqL.of hl1, rfl, rfl, rfl, _, rfl, ?_⟩
      refine iteT ⟨by show 4 ≤ sizeLine; decide, fun l2 nl2 => ?_⟩
      have hl2 := Ext.upd (o := .lst [.str "prime", .str "number", .str "stops", .str "exchange"]) nl2 _ _ hl1
      refine ⟨_, rfl, .inl ⟨rfl, _, SqL.of hl2⟩, l, _, .bl true, 1, .bl true, rfl, rfl, SqL.of hl2, rfl, rfl, rfl, rfl, fun m z' hm hz => ?_, ?_⟩
      · match m, hm, hz with
        | 0, _, hz => cases hz; rfl
      refine ⟨l2, _, _, _, rfl, rfl, SqL.of upd_same, rfl, ?_⟩
      exact ⟨_, rfl, k _ ((Ext.upd nl).trans (Ext.upd nl2))⟩
    · refine ⟨true, C.es, fun _ a na hl => ?_, fun z => nomatch z⟩
      rw [List.length_set] at hl
      obtain ⟨x0, x1, x2, x3, rfl⟩ := four hl
      refine ⟨_, rfl, .inr (.inr (.inl ⟨.ref CP, .ref CP, false, rfl, .own CP, rfl, rfl, C.sp, ?_⟩))⟩
      refine ⟨_, rfl, .inr (.inr (.inl ⟨.ref CN, .ref CN, false, rfl, .own CN, rfl, rfl, C.sn, ?_⟩))⟩
      refine ⟨_, rfl, .inr (.inr (.inl ⟨.ref CS, .ref CS, true, rfl, .own CS, rfl, rfl, kit_same, ?_⟩))⟩
      refine ⟨_, rfl, .inr (.inr (.inl ⟨.ref CX, .ref CX, false, rfl, .own CX, rfl, rfl, C.sx, ?_⟩))⟩
      refine ⟨by show 4 ≤ sizeLine; decide, fun l nl => ?_⟩
      have hl1 : (upd H' l (.lst [.bl false, .bl false, .bl true, .bl false])) l = some (.lst [.bl false, .bl false, .bl true, .bl false]) := upd_same
      refine ⟨_, rfl, .inl ⟨rfl, _, SqL.of hl1⟩, l, _, .bl true, rfl, rfl, SqL.of hl1, rfl, rfl, rfl, _, rfl, ?_⟩
      refine iteT ⟨by show 4 ≤ sizeLine; decide, fun l2 nl2 => ?_⟩
      have hl2 := Ext.upd (o := .lst [.str "prime", .str "number", .str "stops", .str "exchange"]) nl2 _ _ hl1
      refine ⟨_, rfl, .inl ⟨rfl, _, SqL.of hl2⟩, l, _, .bl true, 2, .bl true, rfl, rfl, SqL.of hl2, rfl, rfl, rfl, rfl, fun m z' hm hz => ?_, ?_⟩
      · match m, hm, hz with
        | 0, _, hz => cases hz; rfl
        | 1, _, hz => cases hz; rfl
      refine ⟨l2, _, _, _, rfl, rfl, SqL.of upd_same, rfl, ?_⟩
      exact ⟨_, rfl, k _ ((Ext.upd nl).trans (Ext.upd nl2))⟩
    · refine ⟨true, C.ex, fun _ a na hl => ?_, fun z => nomatch z⟩
      rw [List.length_set] at hl
      obtain ⟨x0, x1, x2, x3, rfl⟩ := four hl
      refine ⟨_, rfl, .inr (.inr (.inr ⟨.ref CP, .ref CP, false, rfl, .own CP, rfl, rfl, C.xp, ?_⟩))⟩
      refine ⟨_, rfl, .inr (.inr (.inr ⟨.ref CN, .ref CN, false, rfl, .own CN, rfl, rfl, C.xn, ?_⟩))⟩
      refine ⟨_, rfl, .inr (.inr (.inr ⟨.ref CS, .ref CS, false, rfl, .own CS, rfl, rfl, C.xs, ?_⟩))⟩
      refine ⟨_, rfl, .inr (.inr (.inr ⟨.ref CX, .ref CX, true, rfl, .own CX, rfl, rfl, kit_same, ?_⟩))⟩
      refine ⟨by show 4 ≤ sizeLine; decide, fun l nl => ?_⟩
      have hl1 : (upd H' l (.lst [.bl false, .bl false, .bl false, .bl true])) l = some (.lst [.bl false, .bl false, .bl false, .bl true]) := upd_same
      refine ⟨_, rfl, .inl ⟨rfl, _, SqL.of hl1⟩, l, _, .bl true, rfl, rfl, SqL.of hl1, rfl, rfl, rfl, _, rfl, ?_⟩
      refine iteT ⟨by show 4 ≤ sizeLine; decide, fun l2 nl2 => ?_⟩
      have hl2 := Ext.upd (o := .lst [.str "prime", .str "number", .str "stops", .str "exchange"]) nl2 _ _ hl1
      refine ⟨_, rfl, .inl ⟨rfl, _, SqL.of hl2⟩, l, _, .bl true, 3, .bl true, rfl, rfl, SqL.of hl2, rfl, rfl, rfl, rfl, fun m z' hm hz => ?_, ?_⟩
      · match m, hm, hz with
        | 0, _, hz => cases hz; rfl
        | 1, _, hz => cases hz; rfl
        | 2, _, hz => cases hz; rfl
      refine ⟨l2, _, _, _, rfl, rfl, SqL.of upd_same, rfl, ?_⟩
      exact ⟨_, rfl, k _ ((Ext.upd nl).trans (Ext.upd nl2))⟩
end V44

set_option Elab.async false
set_option linter.all false
set_option maxRecDepth 100000
set_option maxHeartbeats 400000
set_option pp.maxSteps 60
/-! t[::-1] of a short tuple. -/
namespace V44.G
open PySem L2 PyProof.Rows
section
variable {prog : Program} {w : World} {A : Around} {E : Value → Shared → Prop} {s : Shared}
theorem back_parts {n : Nat} {sl : Addr} {vs : Value} {Q : Int × Int × Nat → Shared → Prop} (h4 : n ≤ 14) (hs : s.heap.IsSliceOf sl .none .none vs) (ps : IsPart vs (some (-1))) (h : Q ((n : Int) - 1, -1, n) s) :
    wpAny (model prog w) A (Builtin.Slice.sliceApplied (.ref sl) (pure (n : Int))) Q E s := by
  rcases hs with ⟨ob, there, _, dt⟩
  unfold Builtin.Slice.sliceApplied Builtin.Slice.sliceFields
  refine wpAny_bind (wpAny_bind (wpAny_field there dt (x := .none) rfl (wpAny_bind (wpAny_field there dt (x := .none) rfl (wpAny_bind (wpAny_field there dt (x := vs) rfl (wpAny_pure ?_)))))))
  refine wpAny_bind (HT.slicePart_ ps ?_)
  show wpAny _ _ (if ((-1 : Int) == 0) = true then _ else _) _ _ s
  rw [if_neg (by decide)]
  have four : n = 0 ∨ n = 1 ∨ n = 2 ∨ n = 3 ∨ n = 4 ∨ n = 5 ∨ n = 6 ∨ n = 7 ∨ n = 8 ∨ n = 9 ∨ n = 10 ∨ n = 11 ∨ n = 12 ∨ n = 13 ∨ n = 14 := by omega
  rcases four with rfl | rfl | rfl | rfl | rfl | rfl | rfl | rfl | rfl | rfl | rfl | rfl | rfl | rfl | rfl <;> exact wpAny_bind (HT.slicePart_ .none (wpAny_bind (HT.slicePart_ .none (wpAny_bind (wpAny_pure (wpAny_pure h))))))
theorem fm_map {α β : Type} {f : α → Option β} {g : α → β} : ∀ {l : List α}, (∀ x ∈ l, f x = some (g x)) → l.filterMap f = l.map g
  | [], _ => rfl
  | x :: l, h => by
    rw [List.filterMap_cons, h x List.mem_cons_self, List.map_cons, fm_map fun y hy => h y (List.mem_cons_of_mem _ hy)]
theorem pick_some (us : List Value) : ((List.range us.toArray.size).filterMap fun (m : Nat) => us.toArray[(((us.toArray.size : Nat) : Int) - 1 + (m : Int) * (-1)).toNat]?).toArray = us.reverse.toArray := by
  congr 1
  have e : ((List.range us.toArray.size).filterMap fun (m : Nat) => us.toArray[(((us.toArray.size : Nat) : Int) - 1 + (m : Int) * (-1)).toNat]?) = (List.range us.length).map fun m => us.reverse.getD m .none := by
    rw [List.size_toArray]
    refine fm_map fun m hm => ?_
    have lt := List.mem_range.mp hm
    have e1 : (((us.length : Nat) : Int) - 1 + (m : Int) * (-1)).toNat = us.length - 1 - m := by omega
    rw [e1, List.getElem?_toArray, List.getD_eq_getElem?_getD, List.getElem?_reverse lt, List.getElem?_eq_getElem (by omega)]
    rfl
  rw [e]
  exact (range_map (fun x => x) Value.none (by rw [List.length_reverse])).trans (List.map_id' _)
theorem back_some {t sl : Addr} {us : List Value} {vs : Value} {Q : Value → Shared → Prop} (h4 : us.length ≤ 14) (ht : IsTup s.heap t us.toArray) (hs : s.heap.IsSliceOf sl .none .none vs) (ps : IsPart vs (some (-1)))
    (h : Q (.ref s.heap.objs.size) { s with heap := s.heap.push { cls := .type "tuple", data := .seq us.reverse.toArray } }) : wpAny (model prog w) A (getItem (.ref t) (.ref sl)) Q E s := by
  have isS : s.TypeIs (.ref sl) "slice" := by
    rcases hs with ⟨ob, there, hc, _⟩
    exact ⟨ob, there, hc⟩
  have fit : sizeOk (.seq us.reverse.toArray) := by
    have e : us.reverse.toArray.size ≤ sizeLine := by
      rw [List.size_toArray, List.length_reverse, sizeLine_eq]
      omega
    exact e
  unfold getItem
  try with_reducible refine wpAny_holding ?_
  first | refine wpAny_bind (wpAny_pure ?_) | skip
  refine wpAny_bind (wpAny_sequenceKey ht.typeIs (by decide) (wpAny_bind (wpAny_callSpecial?_slot (name := Str.ofString "__getitem__") ht.typeIs slot_tuple_getitem (wpAny_call_entry slot_tuple_getitem ht.typeIs entry_tuple_getitem ?_ (args_tuple_getitem _ _)))))
  show wpAny _ _ (Builtin.Tuple.tupleItemsOf (.ref t) >>= _) _ _ s
  refine wpAny_bind (tupleItemsOf_ ht (wpAny_bind (wpAny_typeOf isS ?_)))
  rw [if_pos (by decide)]
  have pick := pick_some us
  refine wpAny_bind (back_parts h4 hs ps ?_)
  show wpAny _ _ (if (((us.length : Nat) : Int) - 1 == 0 && (-1 : Int) == 1 && us.length == us.toArray.size) = true then _ else _) _ _ s
  rw [if_neg (by simp)]
  rw [pick]
  refine wpAny_bind (m := Builtin.Tuple.tupleExact _) ?_
  refine wpAny_newObj_type ?_ fit
  exact wpAny_pure ⟨_, rfl, wpAny_pure h⟩
end
theorem vals_rev : ∀ {xs : List V} {us : List Value}, Vals xs us → Vals xs.reverse us.reverse
  | _, _, .nil => .nil
  | _, _, .cons a r => by
    rw [List.reverse_cons, List.reverse_cons]
    exact Paired.snoc (vals_rev r) a
/-- t[::-1] -/
def tBack (te : TE) : TE := fun σ H Q => te σ H fun v H1 => ∃ (a : Addr) (xs : List V), v = .ref a ∧ H1 a = some (.tup xs) ∧ xs.length ≤ 14 ∧ ∀ p, H1 p = none → Q (.ref p) (upd H1 p (.tup xs.reverse))
theorem pe_back {X : Cx} {e : Expr} {te : TE} {k : Nat} {p1 p2 p3 pos : Pos} (he : PE X e te) : PE X (.Subscript e (.Slice none none (some (.UnaryOp .USub (.Constant (.int 1) k p1) p2)) p3) pos) (tBack te) := by
  constructor
  intro pins s σ H Q I h
  have minus : PO X (some (.UnaryOp .USub (.Constant (.int 1) k p1) p2)) (tPart (tUn (rU fun i => .int (-i)) (tC (.int 1)))) := po_some (pe_un un_neg pe_int)
  refine Subscript_ (thn (he.run pins s σ H _ I h) ?_)
  rintro v s1 ⟨z, H1, I1, rz, a, xs, rfl, ha, h4, q⟩
  obtain rfl : v = Value.ref a := rz
  refine wpAny_Slice (thn (po_none.run pins s1 σ H1 (fun o H2 => o = none ∧ H2 = H1) I1 ⟨rfl, rfl⟩) ?_)
  rintro vl s2 ⟨l, H2, I2, pl, rfl, rfl⟩
  refine thn (po_none.run pins s2 σ H2 (fun o H3 => o = none ∧ H3 = H2) I2 ⟨rfl, rfl⟩) ?_
  rintro vu s3 ⟨u, H3, I3, pu, rfl, rfl⟩
  refine thn (minus.run pins s3 σ H3 (fun o H4 => o = some (-1) ∧ H4 = H3) I3 ⟨1, rfl, -1, rfl, rfl, rfl⟩) ?_
  rintro vs s4 ⟨o, H4, I4, ps, rfl, rfl⟩
  have J : Inv X pins σ H4 { s4 with heap := s4.heap.push { cls := .type "slice", data := .fields #[vl, vu, vs] } } := I4.kept (t' := s4.toks) fun b ob z => Heap.get?_push_of_some _ z
  obtain ⟨its, r, ht, _⟩ := J.tuple (SqT.of ha)
  refine tail_any (ops := [.ref a, .ref s4.heap.objs.size]) ht.typeIs slot_tuple_getitem.lookup ?_ (by with_unfolding_all rfl)
  cases pl
  cases pu
  have lr := r.length
  refine back_some (us := its) (by omega) ht (Heap.IsSliceOf.new _ .none .none vs) ps ?_
  refine ⟨.ref _, _, J.laid (t' := s4.toks) (o := .tup xs.reverse) (fun b ob z => Heap.get?_push_of_some _ z) (Nat.le_refl _) ?_, rfl, q _ (J.hok.fresh (Nat.le_refl _))⟩
  exact ⟨by rw [List.length_reverse, sizeLine_eq]; omega, its.reverse, vals_rev r, ⟨_, Heap.get?_push_size _ rfl, rfl, _, rfl⟩⟩
/-- a list of things -/
def Ths (K : PySem.W.Frag) (S : Hp) (q : Addr) (n : Nat) : Prop := ∃ xs, S q = some (.lst xs) ∧ xs.length ≤ n ∧ 0 < xs.length ∧ ∀ x ∈ xs, AnyD K S x
theorem Ths.ext {K : PySem.W.Frag} {S S' : Hp} {q : Addr} {n : Nat} (e : Ext S S') (h : Ths K S q n) : Ths K S' q n := let ⟨xs, h1, h2, h4, h3⟩ := h; ⟨xs, e _ _ h1, h2, h4, fun x hx => (h3 x hx).ext e⟩
section
variable {K : PySem.W.Frag} {r c : Addr} {I : Hp → Prop} {σ : L2.St}
def StG (r c : Addr) (I : Hp → Prop) : Prop := ∀ H H', BagAt H r c → Go r c H H' → I H → I H'
def MkE (K : PySem.W.Frag) (r c : Addr) (I : Hp → Prop) (σ : L2.St) (te : TE) : Prop := ∀ (H : Hp) (Q : VK), BagAt H r c → I H → (∀ x H', Go r c H H' → AnyD K (Off r c H') x → Q x H') → te σ H Q
def MkA (K : PySem.W.Frag) (r c : Addr) (I : Hp → Prop) (σ : L2.St) (ta : TA) (n : Nat) : Prop := ∀ (H : Hp) (Q : List V → Hp → Prop), BagAt H r c → I H → (∀ xs H', Go r c H H' → xs.length = n → (∀ x ∈ xs, AnyD K (Off r c H') x) → Q xs H') → ta σ H Q
theorem mk_nil : MkA K r c I σ tNil 0 := fun H Q b i k => k [] H (Go.refl b) rfl fun _ z => nomatch z
theorem mk_cons {te : TE} {ta : TA} {n : Nat} (st : StG r c I) (h : MkE K r c I σ te) (g : MkA K r c I σ ta n) : MkA K r c I σ (tCons te ta) (n + 1) := fun H Q b i k =>
  h H _ b i fun x H1 g1 a1 => g H1 _ g1.1 (st _ _ b g1 i) fun xs H2 g2 l2 a2 => k (x :: xs) H2 (g1.trans g2) (by rw [List.length_cons, l2]) fun y hy => by
    rcases List.mem_cons.mp hy with rfl | hy
    · exact a1.ext g2.off
    · exact a2 y hy
theorem mk_tup {ta : TA} {n : Nat} (g : MkA K r c I σ ta n) (hn : n ≤ 1000) : MkE K r c I σ (tTup ta) := fun H Q b i k =>
  g H _ b i fun xs H1 g1 l1 a1 => ⟨Nat.le_trans (by rw [l1]; exact hn) (by decide), fun p np => by
    have gp := Go.new (o := .tup xs) g1.1 np
    exact k _ _ (g1.trans gp) (AnyD.tup (off_tup gp.1 upd_same) (by rw [l1]; exact hn) fun y hy => (a1 y hy).ext gp.off)⟩
theorem mk_lst {ta : TA} {n : Nat} (g : MkA K r c I σ ta n) (hn : n ≤ 1000) : MkE K r c I σ (tLst ta) := fun H Q b i k =>
  g H _ b i fun xs H1 g1 l1 a1 => ⟨Nat.le_trans (by rw [l1]; exact hn) (by decide), fun p np => by
    have gp := Go.new (o := .lst xs) g1.1 np
    exact k _ _ (g1.trans gp) ⟨_, TD.lst (off_at (g1.1.ne np) upd_same)⟩⟩
theorem mk_non : MkE K r c I σ (tC .non) := fun H Q b _ k => k _ _ (Go.refl b) ⟨_, .non⟩
theorem mk_int {i : Int} : MkE K r c I σ (tC (.int i)) := fun H Q b _ k => k _ _ (Go.refl b) ⟨_, .int i⟩
theorem mk_bl {i : Bool} : MkE K r c I σ (tC (.bl i)) := fun H Q b _ k => k _ _ (Go.refl b) ⟨_, .bl i⟩
theorem mk_str {i : Str} : MkE K r c I σ (tC (.str i)) := fun H Q b _ k => k _ _ (Go.refl b) ⟨_, TD.str i⟩
theorem mk_neg {i : Int} : MkE K r c I σ (tUn (rU fun i => .int (-i)) (tC (.int i))) := fun H Q b _ k => ⟨i, rfl, k _ _ (Go.refl b) ⟨_, .int (-i)⟩⟩
theorem mk_dnew : MkE K r c I σ tDNewK := fun H Q b _ k p np => k _ _ (Go.new b np) ⟨_, TD.dct (off_at (b.ne np) upd_same)⟩
theorem mk_disp1 {x y : Int} : MkE K r c I σ (tDisp [(tC (.int x), tC (.int y))]) := fun H Q b _ k p np =>
  ⟨upd_same, [(.inl x, .int y)], rfl, by show 1 ≤ 15; decide, k _ _ (Go.of_ext b fun d o h => by rw [upd_ne (ne_of_none h np), upd_ne (ne_of_none h np)]; exact h) ⟨_, TD.dct (off_at (b.ne np) upd_same)⟩⟩
theorem mk_ths {ta : TA} {n : Nat} {H : Hp} {Q : VK} (g : MkA K r c I σ ta n) (hn : n ≤ 1000) (b : BagAt H r c) (i : I H) (n0 : 0 < n) (k : ∀ l H', Go r c H H' → Ths K (Off r c H') l n → Q (.ref l) H') : tLst ta σ H Q :=
  g H _ b i fun xs H1 g1 l1 a1 => ⟨Nat.le_trans (by rw [l1]; exact hn) (by decide), fun p np => by
    have gp := Go.new (o := .lst xs) g1.1 np
    exact k _ _ (g1.trans gp) ⟨xs, off_at (g1.1.ne np) upd_same, Nat.le_of_eq l1, by rw [l1]; exact n0, fun y hy => (a1 y hy).ext gp.off⟩⟩
theorem cat_ths {H : Hp} {Q : VK} {q l : Addr} {n m : Nat} (b : BagAt H r c) (h1 : Ths K (Off r c H) q n) (h2 : Ths K (Off r c H) l m) (nm : n + m ≤ 10000) (k : ∀ p H', Go r c H H' → Ths K (Off r c H') p (n + m) → Q (.ref p) H') : rCat (.ref q) (.ref l) H Q := by
  obtain ⟨xs, hx, lx, px, ax⟩ := h1
  obtain ⟨ys, hy, ly, py, ay⟩ := h2
  refine ⟨q, l, xs, ys, rfl, rfl, off_le _ _ hx, off_le _ _ hy, Nat.le_trans (show xs.length + ys.length ≤ 10000 by omega) (by decide), fun p np => ?_⟩
  have gp := Go.new (o := .lst (xs ++ ys)) b np
  refine k _ _ gp ⟨_, off_at (b.ne np) upd_same, by rw [List.length_append]; omega, by rw [List.length_append]; omega, fun z hz => ?_⟩
  rcases List.mem_append.mp hz with h | h
  · exact (ax z h).ext gp.off
  · exact (ay z h).ext gp.off
end
end V44.G

set_option Elab.async false
set_option linter.all false
set_option maxRecDepth 100000
set_option maxHeartbeats 4000000
set_option pp.maxSteps 100
/-! Stops drawn, right or odd. -/
namespace V44
open PySem L2 V44.G
abbrev sStops : Stmt := top 74
def spStops (K : PySem.W.Frag) : Sp := fun vs H Q _ => ∃ (r c : Addr) (n : Nat), vs = [.ref r, .int (n : Int)] ∧ BagAt H r c ∧ n ≤ 12 ∧ ∀ (x : V) (H' : Hp), Go r c H H' → G.AnyD K (Off r c H') x → Q x H'
theorem rg_ints (a b : Int) : ∃ ns : List Int, L2.rgV a b = ns.map V.int ∧ ns.length = (b - a).toNat := ⟨(List.range (b - a).toNat).map fun i => a + (i : Nat), by rw [L2.rgV, List.map_map]; rfl, by rw [List.length_map, List.length_range]⟩
theorem cut_ints (ns : List Int) (lo hi : Option Int) : ∃ ms : List Int, cutV (ns.map V.int) lo hi = ms.map V.int ∧ ms.length ≤ ns.length := by
  refine ⟨(ns.drop (HT.sIx ns.length 0 lo)).take (HT.sIx ns.length ns.length hi - HT.sIx ns.length 0 lo), ?_, ?_⟩
  · unfold cutV
    rw [List.length_map, List.map_take, List.map_drop]
  · rw [List.length_take, List.length_drop]; omega
section
variable {P : Program} {w : World} {K : PySem.W.Frag} {mg : Str → Option Value} {base : Heap}
abbrev stopsN : List Str := ["_law_bag_here", "_law_many", "_law_pool", "_law_found", "_law_menu"]
theorem scStops : FnScope stopsN ["_law_bag_here", "_law_many"] (defScope sStops) := ⟨rfl, rfl, rfl, by decide +kernel, rfl, by decide +kernel, by decide +kernel⟩
theorem ok_stops {f : Addr} {fd : FuncData} (F : L2.Fun K "_law_stops" "_law_stops" sStops f fd) (T : Gb mg) (cP : Cal P w K mg base 1 "_law_pick" spPick []) (cS : Cal P w K mg base 2 "_law_some" spSome []) (cDe : Cal P w K mg base 3 "_law_deep" (G.spDeep K) []) : FnOk P w K mg base CX0 4 f fd ["_law_bag_here", "_law_many"] (spStops K) := by
  refine F.ok scStops (fun vs H Q E h => ?_) (fun cdv A outer s H vs Q E hr h => ?_)
  · obtain ⟨r, c, n, rfl, _⟩ := h
    rfl
  · obtain ⟨r, c, n, rfl, bag, n12, k⟩ := h
    refine ⟨_, pss_cons (ps_set (i := 2) scStops.nd rfl (Or.inl rfl) (pe_listRg rfl (by rfl) T.list (prg_1 (by rfl) T.rng (pe_op op_add (pv 1) pe_int))))
      (C8.pss_cut (ps_while PassesOwn.never (pt_cmpR op_gt (pe_callB call_len_seq (by rfl) T.len PySem.boot_len (pa_cons (pv 2) pa_nil)) (pe_op op_add pe_int (C8.pe_c cP hr (by decide) (by rfl) (pa_cons (pv 0) (pa_cons pe_int pa_nil)))) (nomark _))
      (pss_one (ps_expr (pe_bm PySem.F.plainAttrs_list PySem.F.slot_list_pop PySem.F.type_list_pop mt_popAt (pv 2) (pa_cons (C8.pe_c cP hr (by decide) (by rfl) (pa_cons (pv 0) (pa_cons (pe_callB call_len_seq (by rfl) T.len PySem.boot_len (pa_cons (pv 2) pa_nil)) pa_nil))) pa_nil)))))
      (pss_cons (ps_set (i := 3) scStops.nd rfl (Or.inl rfl) (pe_callTy call_tuple_of (by rfl) T.tup (by decide +kernel) (pa_cons (pv 2) pa_nil)))
      (pss_cons (ps_set (i := 4) scStops.nd rfl (Or.inl rfl) (pe_lst (pa_cons (pv 3) (pa_cons (pv 3) (pa_cons (pv 3) (pa_cons (pe_callTy call_list_of (by rfl) T.list (by decide +kernel) (pa_cons (pv 3) pa_nil)) (pa_cons (pe_op op_catA (pv 3) (pe_tup (pa_cons (pe_op op_add (pv 1) pe_int) pa_nil))) (pa_cons (pe_tup pa_nil) (pa_cons (G.pe_back (pv 3)) (pa_cons (pe_op op_catA (pe_tup (pa_cons (pe_un un_neg pe_int) pa_nil)) (pv 3)) pa_nil))))))))))
      (pss_one (ps_ret (C8.pe_c cS hr (by decide) (by rfl) (pa_cons (pv 0) (pa_cons (pe_op op_cat (pv 4) (pe_lst (pa_cons (pe_op op_catA (pv 3) (pe_slice sl_tupA (pv 3) (po_some (pe_un un_neg pe_int)) po_none)) (pa_cons (pe_tup (pa_cons pe_bl pa_nil)) (pa_cons (pe_tup (pa_cons pe_int (pa_cons pe_int pa_nil))) (pa_cons pe_non (pa_cons pe_int (pa_cons (pe_tup (pa_cons (pe_tup (pa_cons pe_int pa_nil)) pa_nil)) (pa_cons (C8.pe_c cDe hr (by decide) (by rfl) (pa_cons (pv 0) pa_nil)) pa_nil))))))))) pa_nil)))))))), ?_⟩
    refine ⟨_, rfl, _, _, rfl, rfl, (n : Int) + 1, rfl, RgOk.of_le (by decide) (by omega) (by decide) (by omega), fun l nl => ?_⟩
    obtain ⟨ns, en, ln⟩ := rg_ints 0 ((n : Int) + 1)
    rw [en]
    have g1 := Go.new (o := .lst (ns.map V.int)) bag nl
    have nla := bag.ne nl
    refine ⟨fun σ' J => ∃ ks : List Int, σ' = [some (.ref r), some (.int (n : Int)), some (.ref l), Option.none, Option.none] ∧ Go r c H J ∧ J l = some (.lst (ks.map V.int)) ∧ ks.length ≤ 13, ?_, ?_⟩
    · refine ⟨fun m σ' J => ∃ ks : List Int, σ' = [some (.ref r), some (.int (n : Int)), some (.ref l), Option.none, Option.none] ∧ Go r c H J ∧ J l = some (.lst (ks.map V.int)) ∧ ks.length ≤ 13 ∧ ks.length = m, ⟨_, ns, rfl, g1, upd_same, by omega, rfl⟩, ?_⟩
      rintro m σ' J ⟨ks, rfl, g, hl, l13, lm⟩
      refine ⟨_, rfl, l, _, rfl, .inl (SqL.of hl), _, rfl, r, c, 10, rfl, g.1, by decide, by decide, fun p J1 p0 p10 g1' => ⟨_, _, rfl, rfl, _, _, rfl, rfl, _, rfl, ?_⟩⟩
      have hl1 := g1'.2 _ _ nla.1 nla.2 hl
      have gg := g.trans g1'
      refine ite2 (fun q => ?_) (fun _ => ⟨ks, rfl, gg, hl1, l13⟩)
      have big : 1 < ks.length := by
        have := of_decide_eq_true q
        rw [List.length_map] at this
        omega
      refine ⟨fun σ' J' => ∃ m', m' < m ∧ ∃ ks : List Int, σ' = [some (.ref r), some (.int (n : Int)), some (.ref l), Option.none, Option.none] ∧ Go r c H J' ∧ J' l = some (.lst (ks.map V.int)) ∧ ks.length ≤ 13 ∧ ks.length = m', fun _ _ z => z, ?_⟩
      refine ⟨_, rfl, .inl ⟨rfl, _, SqL.of hl1⟩, _, rfl, _, rfl, l, _, rfl, .inl (SqL.of hl1), r, c, _, rfl, gg.1, by rw [List.length_map]; omega, by rw [List.length_map]; omega, fun t J2 t0 tlt g2 => ?_⟩
      rw [List.length_map] at tlt
      have lt : t.toNat < ks.length := by omega
      have hy : (ks.map V.int)[t.toNat]? = some (V.int ks[t.toNat]) := by rw [List.getElem?_map, List.getElem?_eq_getElem lt]; rfl
      have hl2 := g2.2 _ _ nla.1 nla.2 hl1
      refine ⟨l, _, t, t.toNat, _, rfl, rfl, hl2, by omega, by omega, seqI t0 (by rw [List.length_map]; exact tlt), hy, ?_⟩
      have el : (ks.eraseIdx t.toNat).length = ks.length - 1 := by rw [List.length_eraseIdx, if_pos lt]
      exact ⟨_, by omega, ks.eraseIdx t.toNat, rfl, Go.put bag (gg.trans g2) nl, by rw [upd_same, erase_map], by omega, el⟩
    rintro σ' J ⟨ks, rfl, g, hl, l13⟩
    refine ⟨_, rfl, l, _, rfl, .inl ⟨SqL.of hl, fun t nt => ?_⟩⟩
    have gt := Go.new (o := .tup (ks.map V.int)) g.1 nt
    have ht : (upd J t (.tup (ks.map V.int))) t = some (.tup (ks.map V.int)) := upd_same
    have g2 := g.trans gt
    generalize upd J t (.tup (ks.map V.int)) = J1 at *
    have st : G.StG r c (fun S => S t = some (.tup (ks.map V.int))) := fun _ _ b g h => g.tup b h
    have self : ∀ (H : Hp) (Q : VK), BagAt H r c → H t = some (.tup (ks.map V.int)) → (∀ x H', Go r c H H' → G.AnyD K (Off r c H') x → Q x H') → Q (.ref t) H := fun H Q b i k => k _ _ (Go.refl b) ⟨_, G.TD.ints (ns := ks) (off_tup b i) (by omega)⟩
    unfold gName
    dsimp only [tSeq, tAsg]
    refine G.mk_ths (K := K) (I := fun S => S t = some (.tup (ks.map V.int))) (n := 8) (G.mk_cons st (fun H Q b i k => ⟨_, rfl, self H Q b i k⟩) (G.mk_cons st (fun H Q b i k => ⟨_, rfl, self H Q b i k⟩) (G.mk_cons st (fun H Q b i k => ⟨_, rfl, self H Q b i k⟩) (G.mk_cons st (fun H Q b i k => ?_) (G.mk_cons st (fun H Q b i k => ?_) (G.mk_cons st (G.mk_tup G.mk_nil (by decide)) (G.mk_cons st (fun H Q b i k => ?_) (G.mk_cons st (fun H Q b i k => ?_) G.mk_nil)))))))) (by decide) g2.1 ht (by decide) fun m1 J2 g3 th => ?_
    · refine ⟨_, rfl, t, _, rfl, .inr (SqT.of i), fun p np => ?_⟩
      exact k _ _ (Go.new b np) ⟨_, G.TD.lst (off_at (b.ne np) upd_same)⟩
    · refine ⟨_, rfl, _, rfl, _, _, rfl, rfl, by show 1 ≤ sizeLine; decide, fun p np => ?_⟩
      have xp := Ext.upd (o := .tup [V.int ((n : Int) + 1)]) np
      refine cat_any (xp _ _ i) upd_same (by rw [List.length_map]; show ks.length + 1 ≤ 1000; omega) fun p2 J2 x2 hp2 => ?_
      have g2 := Go.of_ext b (xp.trans x2)
      exact k _ _ g2 ⟨_, G.TD.ints (ns := ks ++ [(n : Int) + 1]) (off_tup g2.1 (by rw [List.map_append]; exact hp2)) (by rw [List.length_append]; show ks.length + 1 ≤ 1000; omega)⟩
    · refine ⟨_, rfl, t, _, rfl, i, by rw [List.length_map]; omega, fun p np => ?_⟩
      have gp := Go.new (o := .tup (ks.map V.int).reverse) b np
      exact k _ _ gp ⟨_, G.TD.ints (ns := ks.reverse) (off_tup gp.1 (by rw [List.map_reverse]; exact upd_same)) (by rw [List.length_reverse]; omega)⟩
    · refine ⟨1, rfl, by show 1 ≤ sizeLine; decide, fun p np => ⟨_, rfl, ?_⟩⟩
      have xp := Ext.upd (o := .tup [V.int (-1)]) np
      refine cat_any upd_same (xp _ _ i) (by rw [List.length_map]; show 1 + ks.length ≤ 1000; omega) fun p2 J2 x2 hp2 => ?_
      have g2 := Go.of_ext b (xp.trans x2)
      exact k _ _ g2 ⟨_, G.TD.ints (ns := [-1] ++ ks) (off_tup g2.1 (by rw [List.map_append]; exact hp2)) (by rw [List.length_append]; show 1 + ks.length ≤ 1000; omega)⟩
    refine ⟨_, rfl, _, rfl, G.mk_ths (K := K) (I := fun S => S t = some (.tup (ks.map V.int))) (n := 7) (G.mk_cons st (fun H Q b i k => ?_) (G.mk_cons st (G.mk_tup (G.mk_cons st G.mk_bl G.mk_nil) (by decide)) (G.mk_cons st (G.mk_tup (G.mk_cons st G.mk_int (G.mk_cons st G.mk_int G.mk_nil)) (by decide)) (G.mk_cons st G.mk_non (G.mk_cons st G.mk_int (G.mk_cons st (G.mk_tup (G.mk_cons st (G.mk_tup (G.mk_cons st G.mk_int G.mk_nil) (by decide)) G.mk_nil) (by decide)) (G.mk_cons st (fun H Q b i k => ⟨_, rfl, r, c, rfl, b, fun x H5 g a => k x H5 g a⟩) G.mk_nil))))))) (by decide) g3.1 (g3.tup g2.1 ht) (by decide) fun m2 J3 g4 th2 => ?_⟩
    · refine ⟨_, rfl, _, rfl, 1, rfl, -1, rfl, ?_⟩
      dsimp only [tNoPart]
      refine sl_any i fun p J x hp => ?_
      obtain ⟨ms, em, lm⟩ := cut_ints ks (some (-1)) Option.none
      rw [em] at hp
      refine cat_any (x _ _ i) hp (by rw [List.length_map, List.length_map]; omega) fun p2 J2 x2 hp2 => ?_
      have g2 := Go.of_ext b (x.trans x2)
      exact k _ _ g2 ⟨_, G.TD.ints (ns := ks ++ ms) (off_tup g2.1 (by rw [List.map_append]; exact hp2)) (by rw [List.length_append]; omega)⟩
    · have g13 := (g2.trans g3).trans g4
      refine G.cat_ths g13.1 (th.ext g4.off) th2 (by decide) fun m3 J4 g5 th3 => ?_
      obtain ⟨xs, hx, lx, px, ax⟩ := th3
      obtain ⟨n1, n2, hx'⟩ := off_some hx
      have g15 := g13.trans g5
      exact ⟨r, c, m3, xs, rfl, g15.1, n1, n2, hx', (fun z => by rw [z] at px; exact absurd px (Nat.lt_irrefl _)), Nat.le_trans lx (by decide), fun x H' hx g6 => k x H' (g15.trans g6) ((ax x hx).ext g6.off)⟩
end
end V44

set_option Elab.async false
set_option linter.all false
set_option maxRecDepth 100000
set_option maxHeartbeats 4000000
set_option pp.maxSteps 100
/-! What holds in the law; the words of its three calls. -/
namespace V44
open PySem L2 LamX V44.G
abbrev sLaw : Stmt := top 75
abbrev lamQ : Str := (("law" : Str) ++ ".<locals>.") ++ "<lambda>"
def spLaw (K : PySem.W.Frag) (PL : Addr) : Sp := fun vs H Q _ => ∃ (a : Addr) (ns : List Int), vs = [.ref a] ∧ SqL K H a (ns.map V.int) ∧ ns.length ≤ 63 ∧ H PL = some (.tbl #[]) ∧ ∀ H', Q (.bl true) H'
theorem Tabs.go {r c : Addr} {T : List (Addr × Str)} {H H' : Hp} (p : BagAt H r c) (g : Go r c H H') (t : Tabs T H) : Tabs T H' := fun q hq => by
  obtain ⟨ps, h1, h2, h3⟩ := t q hq
  refine ⟨ps, g.2 _ _ (bag_no p h1 fun _ z => nomatch z).1 (bag_no p h1 fun _ z => nomatch z).2 h1, h2, fun pos cv hc => ?_⟩
  obtain ⟨d, e1, e2⟩ := h3 pos cv hc
  exact ⟨d, e1, g.2 _ _ (bag_no p e2 fun _ z => nomatch z).1 (bag_no p e2 fun _ z => nomatch z).2 e2⟩
/-- what the law holds: the bag, the tower at p over the cells at b, the table of code objects -/
structure LawI (CT r c p b PL : Addr) (ll : List (List Int)) (H : Hp) : Prop where
  bag : BagAt H r c
  tow : TowAt CT H p b
  tr : TR H b ll
  bare : Bare H b
  tabs : Tabs [(PL, lamQ)] H
theorem LawI.keep {CT r c p b PL : Addr} {ll : List (List Int)} {H H' : Hp} (h : LawI CT r c p b PL ll H) (bag : BagAt H' r c) (tabs : Tabs [(PL, lamQ)] H') (e : ∀ q o, H q = some o → (∀ xs, o ≠ .lst xs) → (∀ ps, o ≠ .tbl ps) → H' q = some o) : LawI CT r c p b PL ll H' := by
  obtain ⟨_, ⟨dx, t⟩, ⟨as, hb, pt⟩, ⟨o, u, h1, h2⟩, _⟩ := h
  refine ⟨bag, ⟨dx, e _ _ t (fun _ z => nomatch z) (fun _ z => nomatch z)⟩, ⟨as, ?_, Paired.imp' (fun _ _ z => e _ _ z (fun _ q => by cases q) (fun _ q => by cases q)) pt⟩, ⟨o, u, e _ _ h1 (fun _ z => by cases z) (fun _ z => by cases z), h2⟩, tabs⟩
  rcases hb with q | ⟨o', q⟩
  · exact .inl (e _ _ q (fun _ z => nomatch z) (fun _ z => nomatch z))
  · exact .inr ⟨o', e _ _ q (fun _ z => nomatch z) (fun _ z => nomatch z)⟩
theorem LawI.go {CT r c p b PL : Addr} {ll : List (List Int)} {H H' : Hp} (g : Go r c H H') (h : LawI CT r c p b PL ll H) : LawI CT r c p b PL ll H' :=
  h.keep g.1 (Tabs.go h.bag g h.tabs) fun q o hq nl _ => g.2 q o (bag_no h.bag hq nl).1 (bag_no h.bag hq nl).2 hq
theorem LawI.extN {CT r c p b PL : Addr} {ll : List (List Int)} {H H' : Hp} (e : ExtN H H') (t : Tabs [(PL, lamQ)] H') (h : LawI CT r c p b PL ll H) : LawI CT r c p b PL ll H' := by
  obtain ⟨ns, z, m, n, h1, h2⟩ := id h.bag
  exact h.keep ⟨ns, z, m, n, e _ _ h1 (fun _ q => by cases q), e _ _ h2 (fun _ q => by cases q)⟩ t fun q o hq _ nt => e q o hq nt
theorem TyOf.extN {K : PySem.W.Frag} {H H' : Hp} {x : V} {t : Value} (h : TyOf K H x t) (e : ExtN H H') : TyOf K H' x t := by
  cases h with
  | non => exact .non
  | bl x => exact .bl x
  | int i => exact .int i
  | str x => exact .str x
  | flt x => exact .flt x
  | lst h => exact .lst (e _ _ h (fun _ q => by cases q))
  | frz h => exact .frz (e _ _ h (fun _ q => by cases q))
  | tup h => exact .tup (e _ _ h (fun _ q => by cases q))
  | dK h => exact .dK (e _ _ h (fun _ q => by cases q))
  | dT h => exact .dT (e _ _ h (fun _ q => by cases q))
  | ins h c a b d f => exact .ins (e _ _ h (fun _ q => by cases q)) c a b d f
theorem TyX.extN {K : PySem.W.Frag} {H H' : Hp} {x : V} {t : Value} (h : TyX K H x t) (e : ExtN H H') : TyX K H' x t := by
  cases h with
  | base h => exact .base (TyOf.extN h e)
  | byt b => exact .byt b
  | set h => exact .set (e _ _ h (fun _ q => by cases q))
  | kList h c => exact .kList h c
  | kTuple h c => exact .kTuple h c
  | kDict h c => exact .kDict h c
  | fTuple h => exact .fTuple (e _ _ h (fun _ q => by cases q))
  | fDict h => exact .fDict (e _ _ h (fun _ q => by cases q))
section
variable {K : PySem.W.Frag} {H : Hp}
mutual
theorem td_extN {H' : Hp} (e : ExtN H H') : ∀ {x : V} {d : G.D}, G.TD K H x d → G.TD K H' x d
  | _, _, .oth a b c d f g h i => .oth (TyX.extN a e) b c d f g h fun q z => let ⟨o, h1, h2, h3⟩ := i q z; ⟨o, e _ _ h1 h3, h2, h3⟩
  | _, _, .non => .non
  | _, _, .bl b => .bl b
  | _, _, .int i => .int i
  | _, _, .tup a b c => .tup (e _ _ a (fun _ q => by cases q)) b (tds_extN e c)
theorem tds_extN {H' : Hp} (e : ExtN H H') : ∀ {xs : List V} {ds : List G.D}, G.TDs K H xs ds → G.TDs K H' xs ds
  | _, _, .nil => .nil
  | _, _, .cons a r => .cons (td_extN e a) (tds_extN e r)
end
end
theorem off_extN {r c : Addr} {H H' : Hp} (e : ExtN H H') : ExtN (Off r c H) (Off r c H') := fun b o h n => let ⟨n1, n2, h'⟩ := off_some h; off_at ⟨n1, n2⟩ (e b o h' n)
theorem any_extN {K : PySem.W.Frag} {r c : Addr} {H H' : Hp} {x : V} (e : ExtN H H') (h : G.AnyD K (Off r c H) x) : G.AnyD K (Off r c H') x := let ⟨d, h⟩ := h; ⟨d, td_extN (off_extN e) h⟩
theorem some_of {K : PySem.W.Frag} {r c l : Addr} {H : Hp} {n : Nat} {Q : VK} {E : XK} (b : BagAt H r c) (th : G.Ths K (Off r c H) l n) (hn : n ≤ 1000) (k : ∀ x H', Go r c H H' → G.AnyD K (Off r c H') x → Q x H') : spSome [.ref r, .ref l] H Q E := by
  obtain ⟨xs, hx, lx, px, ax⟩ := th
  obtain ⟨n1, n2, hx'⟩ := off_some hx
  exact ⟨r, c, l, xs, rfl, b, n1, n2, hx', (fun z => by rw [z] at px; exact absurd px (Nat.lt_irrefl _)), Nat.le_trans lx hn, fun x H' hm g => k x H' g ((ax x hm).ext g.off)⟩
/-- pairs of a Boolean and a word -/
def PairsAt (H : Hp) (q : Addr) (ps : List (Bool × Str)) : Prop := ∃ as : List Addr, H q = some (.lst (as.map V.ref)) ∧ Paired (fun a p => H a = some (.tup [.bl p.1, .str p.2])) as ps
theorem PairsAt.extN {H H' : Hp} {q : Addr} {ps : List (Bool × Str)} (e : ExtN H H') (h : PairsAt H q ps) : PairsAt H' q ps := let ⟨as, h1, h2⟩ := h; ⟨as, e _ _ h1 (fun _ z => by cases z), Paired.imp' (fun _ _ z => e _ _ z (fun _ z => by cases z)) h2⟩
theorem PairsAt.ext {H H' : Hp} {q : Addr} {ps : List (Bool × Str)} (e : Ext H H') (h : PairsAt H q ps) : PairsAt H' q ps := h.extN (ExtN.of e)
theorem first_of {H : Hp} {q : Addr} {ps : List (Bool × Str)} {Q : VK} {E : XK} (h : PairsAt H q ps) (k : Q (.str (firstW ps)) H) : spFirst [.ref q] H Q E := let ⟨as, h1, h2⟩ := h; ⟨q, as, ps, rfl, h1, h2, k⟩
theorem same_word {z : Str} {H : Hp} {Q : VK} (k : Q (.bl false) H) : rNe (.str z) (.str z) H Q := ⟨rfl, by rw [decide_eq_true rfl]; exact k⟩
section
variable {K : PySem.W.Frag} {CT NP NN NS NX r c p b PL : Addr} {ll : List (List Int)} {H : Hp} {R : VK}
theorem bars_word {x y : V} (li : LawI CT r c p b PL ll H) (gd : GoodT ll) (l40 : ll.length ≤ 40) (tx : Th K H 0 x) (ty : Th K H 0 y) (k : ∀ H', Ext H H' → R (.str (firstW [(primeV x, "prime"), (numV 3 y, "number")])) H') :
    spBars K CT NP NN [.ref p, x, y] H (fun _ H' => ∃ v, some (some (V.str "let")) = some (some v) ∧ R v H') (fun cls d H' => d = none ∧ ((cls = .ref NP ∧ ∀ H'', Ext H' H'' → R (.str "prime") H'') ∨ (cls = .ref NN ∧ ∀ H'', Ext H' H'' → R (.str "number") H'') ∨ (cls = .ref NS ∧ ∀ H'', Ext H' H'' → R (.str "stops") H'') ∨ (cls = .ref NX ∧ ∀ H'', Ext H' H'' → R (.str "exchange") H''))) := by
  refine ⟨p, b, ll, x, y, rfl, li.tow, li.tr, li.bare, gd, l40, tx, ty, fun H' hp e => ⟨rfl, .inl ⟨rfl, fun H'' e' => ?_⟩⟩, fun H' hp hn e => ⟨rfl, .inr (.inl ⟨rfl, fun H'' e' => ?_⟩)⟩, fun t xs H' hp hn e _ _ _ => ⟨_, rfl, ?_⟩⟩
  · have h := k H'' (e.trans e')
    rw [hp] at h
    exact h
  · have h := k H'' (e.trans e')
    rw [hp, hn] at h
    exact h
  · have h := k H' e
    rw [hp, hn] at h
    exact h
theorem pic_word {x y z : V} {d : G.D} {bb : Bool} (li : LawI CT r c p b PL ll H) (gd : GoodT ll) (l40 : ll.length ≤ 40) (tx : Th K H 0 x) (ty : Th K H 0 y) (tz : G.TD K H z d) (hb : bb = true ↔ StopsP (ll.length : Int) d) (k : ∀ H', Ext H H' → R (.str (firstW [(primeV x, "prime"), (numV 3 y, "number"), (bb, "stops")])) H') :
    spTP K CT NP NN NS [.ref p, x, y, z] H (fun _ H' => ∃ v, some (some (V.str "let")) = some (some v) ∧ R v H') (fun cls d H' => d = none ∧ ((cls = .ref NP ∧ ∀ H'', Ext H' H'' → R (.str "prime") H'') ∨ (cls = .ref NN ∧ ∀ H'', Ext H' H'' → R (.str "number") H'') ∨ (cls = .ref NS ∧ ∀ H'', Ext H' H'' → R (.str "stops") H'') ∨ (cls = .ref NX ∧ ∀ H'', Ext H' H'' → R (.str "exchange") H''))) := by
  refine ⟨p, b, ll, x, y, z, d, rfl, li.tow, li.tr, li.bare, gd, l40, tx, ty, tz, fun H' hp e => ⟨rfl, .inl ⟨rfl, fun H'' e' => ?_⟩⟩, fun H' hp hn e => ⟨rfl, .inr (.inl ⟨rfl, fun H'' e' => ?_⟩)⟩, fun H' hp hn hs e => ⟨rfl, .inr (.inr (.inl ⟨rfl, fun H'' e' => ?_⟩))⟩, fun q H' hp hn hs e => ⟨_, rfl, ?_⟩⟩
  · have h := k H'' (e.trans e')
    rw [hp] at h
    exact h
  · have h := k H'' (e.trans e')
    rw [hp, hn] at h
    exact h
  · have h := k H'' (e.trans e')
    have nb : bb = false := by cases bb with | false => rfl | true => exact absurd (hb.mp rfl) hs
    rw [hp, hn, nb] at h
    exact h
  · have h := k H' e
    rw [hp, hn, hb.mpr hs] at h
    exact h
theorem ex_word {x : V} {ff : Bool} (li : LawI CT r c p b PL ll H) (gd : GoodT ll) (l40 : ll.length ≤ 40) (tx : Th K H 0 x) (hf : ∀ (k : Nat) (l1 l2 : List Int), x = .int (k : Int) → ll[k]? = some l1 → ll[k + 1]? = some l2 → (ff = true ↔ l1 ∉ facesL l2))
    (k : ∀ H', Ext H H' → R (.str (firstW [(numV ((ll.length : Int) - 2) x, "number"), (ff, "exchange")])) H') :
    spEx K CT NN NX [.ref p, x] H (fun _ H' => ∃ v, some (some (V.str "let")) = some (some v) ∧ R v H') (fun cls d H' => d = none ∧ ((cls = .ref NP ∧ ∀ H'', Ext H' H'' → R (.str "prime") H'') ∨ (cls = .ref NN ∧ ∀ H'', Ext H' H'' → R (.str "number") H'') ∨ (cls = .ref NS ∧ ∀ H'', Ext H' H'' → R (.str "stops") H'') ∨ (cls = .ref NX ∧ ∀ H'', Ext H' H'' → R (.str "exchange") H''))) := by
  have nt : ∀ (k : Nat) (l1 l2 : List Int), x = .int (k : Int) → ll[k + 1]? = some l2 → numV ((ll.length : Int) - 2) x = true := fun k l1 l2 e h => by
    have := (List.getElem?_eq_some_iff.mp h).1
    exact numV_true.mpr ⟨(k : Int), e, by omega, by omega⟩
  refine ⟨p, b, ll, x, rfl, li.tow, li.tr, gd, l40, tx, fun H' hn e => ⟨rfl, .inr (.inl ⟨rfl, fun H'' e' => ?_⟩)⟩, fun j l1 l2 H' hx h1 h2 hm e => ⟨rfl, .inr (.inr (.inr ⟨rfl, fun H'' e' => ?_⟩))⟩, fun j l1 l2 q H' hx h1 h2 hm e => ⟨_, rfl, ?_⟩⟩
  · have h := k H'' (e.trans e')
    rw [hn] at h
    exact h
  · have h := k H'' (e.trans e')
    have nf : ff = false := by cases ff with | false => rfl | true => exact absurd hm ((hf j l1 l2 hx h1 h2).mp rfl)
    rw [nt j l1 l2 hx h2, nf] at h
    exact h
  · have h := k H' e
    rw [nt j l1 l2 hx h2, (hf j l1 l2 hx h1 h2).mpr hm] at h
    exact h
end
end V44

set_option Elab.async false
set_option linter.all false
set_option maxRecDepth 100000
set_option maxHeartbeats 4000000
set_option pp.maxSteps 2000
/-! law. -/
namespace V44
open PySem L2 LamX V44.G
section
variable {P : Program} {w : World} {K : PySem.W.Frag} {mg : Str → Option Value} {base : Heap}
abbrev lawN : List Str := ["_law_script", "_law_bag_here", "_law_cells", "_law_turn", "_law_menu", "_law_pairs", "_law_is_place", "_law_is_free", "_law_at", "_law_depth", "_law_prime", "_law_stops_here", "_law_tower"]
theorem scLaw : FnScope lawN ["_law_script"] (defScope sLaw) := ⟨rfl, rfl, rfl, by decide +kernel, rfl, by decide +kernel, by decide +kernel⟩
/-- a def whose code object is known -/
theorem fn_at {x qual : Str} {st : Stmt} {f : Addr} {N ps : List Str} {k : Nat} {sp : Sp} {oc : Value} {od an : Option Addr} {osl : Array (Option Value)} {kV doc pm cdv ct : Value} (lk : K.lookup f = some ⟨oc, od, .func (PySem.W.fnOf x qual (defArgs st) (defBody st) (defScope st) .none kV doc pm an cdv ct), osl⟩)
    (hcd : PySem.W.codeIn K cdv qual = true) (S : FnScope N ps (defScope st)) (len : ∀ vs H Q E, sp vs H Q E → vs.length = ps.length)
    (body : ∀ (A : Around) (outer : List Env) (s : Shared) (H : Hp) (vs : List V) (Q : VK) (E : XK), Room k (A.deeper (PyProof.Rows.envOfC qual (defScope st) s.heap.objs.size f cdv)) → sp vs H Q E → ∃ t, PSs (cxOf CX0 P w K mg base N qual (defScope st) f cdv A outer s H E).nox (defBody st) t ∧ t { nx := fun _ H' => Q .non H', rt := Q } (L2.start N vs) H) :
    FnOk P w K mg base CX0 (k + 1) f (PySem.W.fnOf x qual (defArgs st) (defBody st) (defScope st) .none kV doc pm an cdv ct) ps sp :=
  fn_of lk hcd S len fun A outer s H vs Q E hr h => (body A outer s H vs Q E hr h).imp fun _ z => ⟨z.1.nox, z.2⟩
theorem ok_law {f fw fB fP fX fT CT NP NN NS NX CE fI cL PL : Addr} {fdB fdP fdX fdT : FuncData} {oc ow : Value} {od an odw anw : Option Addr} {osl slw : Array (Option Value)} {kV doc pm ct kVw docw pmw cdvw ctw : Value}
    (lk : K.lookup f = some ⟨oc, od, .func (PySem.W.fnOf "law" "law" (defArgs sLaw) (defBody sLaw) (defScope sLaw) .none kV doc pm an (.ref cL) ct), osl⟩) (hcd : PySem.W.codeIn K (.ref cL) "law" = true) (TB : TabB base mg cL PL)
    (T : Gb mg) (W : TowK K mg CT) (WC : WordC K mg NP NN NS NX CE fI) (MT : Mk K CT fT) (FT : FnOk P w K mg base CX0 5 fT fdT ["self", "cells"] (spTowG CT)) (bT : Binds K fdT ["self", "cells"] [])
    (cB : Cal P w K mg base 1 "_law_bag" (spBag K) []) (cP : Cal P w K mg base 1 "_law_pick" spPick []) (cS : Cal P w K mg base 2 "_law_some" spSome []) (cG : Cal P w K mg base 3 "_law_grown" spGrown []) (cDe : Cal P w K mg base 3 "_law_deep" (G.spDeep K) []) (cSt : Cal P w K mg base 4 "_law_stops" (spStops K) [])
    (cWi : Cal P w K mg base 2 "_law_is_within" (spWithin K) []) (cPr : Cal P w K mg base 2 "_law_is_prime" (spLPrime K) []) (cAr : Cal P w K mg base 3 "_law_are_stops" (spAre K) []) (cFi : Cal P w K mg base 1 "_law_first" spFirst []) (cLF : Cal P w K mg base 1 "_law_faces" spFaces [])
    (FB : FnOk P w K mg base (L2.CX P w) 4 fB fdB ["tower", "prime", "deep"] (spBars K CT NP NN)) (mB : mg "tower_bars" = some (.ref fB)) (kB : PySem.W.keepIn K (.ref fB) = true) (bB : Binds K fdB ["tower", "prime", "deep"] [])
    (FP : FnOk P w K mg base (L2.CX P w) 9 fP fdP ["tower", "prime", "deep", "stops"] (spTP K CT NP NN NS)) (mP : mg "tower_picture" = some (.ref fP)) (kP : PySem.W.keepIn K (.ref fP) = true) (bP : Binds K fdP ["tower", "prime", "deep", "stops"] [])
    (FX : FnOk P w K mg base (L2.CX P w) 7 fX fdX ["tower", "at"] (spEx K CT NN NX)) (mX : mg "exchanged" = some (.ref fX)) (kX : PySem.W.keepIn K (.ref fX) = true) (bX : Binds K fdX ["tower", "at"] [])
    (lw : K.lookup fw = some ⟨ow, odw, .func (PySem.W.fnOf "_law_word" "_law_word" (defArgs sWord) (defBody sWord) (defScope sWord) .none kVw docw pmw anw cdvw ctw), slw⟩) (cdw : PySem.W.codeIn K cdvw "_law_word" = true) (mw : mg "_law_word" = some (.ref fw)) (kw : PySem.W.keepIn K (.ref fw) = true)
    (bw : Binds K (PySem.W.fnOf "_law_word" "_law_word" (defArgs sWord) (defBody sWord) (defScope sWord) .none kVw docw pmw anw cdvw ctw) ["_law_asked"] []) :
    FnOk P w K mg base CX0 13 f (PySem.W.fnOf "law" "law" (defArgs sLaw) (defBody sLaw) (defScope sLaw) .none kV doc pm an (.ref cL) ct) ["_law_script"] (spLaw K PL) := by
  refine fn_at lk hcd scLaw (fun vs H Q E h => ?_) (fun A outer s H vs Q E hr h => ?_)
  · obtain ⟨a, ns, rfl, _⟩ := h
    rfl
  · obtain ⟨s0, ns, rfl, hS, hlen, hPL, k⟩ := h
    have hrT : Room 6 _ := hr.mono (by decide)
    refine ⟨_, pss_cons (ps_set (i := 1) scLaw.nd rfl (Or.inl rfl) (C8.pe_c cB hr (by decide) (by rfl) (pa_cons (pv 0) pa_nil)))
      (pss_cons (ps_set (i := 2) scLaw.nd rfl (Or.inl rfl) (pe_callTy call_tuple_frz (by rfl) T.tup (by decide +kernel) (pa_cons (C8.pe_c cG hr (by decide) (by rfl) (pa_cons (pv 1) (pa_cons (C8.pe_c cP hr (by decide) (by rfl) (pa_cons (pv 1) (pa_cons pe_int pa_nil))) pa_nil))) pa_nil)))
      (pss_cons (ps_set (i := 12) scLaw.nd rfl (Or.inr rfl) (pe_make MT FT hrT (by rfl) W.mgC bT .nil pass0 (pa_cons (pv 2) pa_nil)))
      (pss_cons (ps_for PassesOwn.never rfl (pi_range1 (by rfl) T.rng (pa_cons pe_int pa_nil)) (pg_name (i := 3) scLaw.nd rfl (Or.inl rfl))
      (C8.pss_cut (ps_set (i := 4) scLaw.nd rfl (Or.inl rfl) (pe_lst (pa_cons pe_int (pa_cons pe_int (pa_cons pe_int (pa_cons pe_int (pa_cons pe_int (pa_cons pe_int (pa_cons pe_int (pa_cons pe_int (pa_cons pe_int (pa_cons pe_int (pa_cons pe_int (pa_cons pe_int (pa_cons (pe_un un_neg pe_int) (pa_cons pe_bl (pa_cons pe_non (pa_cons pe_str (pa_cons (pe_tup (pa_cons pe_int pa_nil)) (pa_cons (pe_op op_add (pe_op op_pow pe_int pe_int) pe_int) pa_nil))))))))))))))))))))
      (C8.pss_cut (ps_set (i := 10) scLaw.nd rfl (Or.inr rfl) (C8.pe_c cS hr (by decide) (by rfl) (pa_cons (pv 1) (pa_cons (pe_op op_cat (pv 4) (pe_lst (pa_cons (C8.pe_c cDe hr (by decide) (by rfl) (pa_cons (pv 1) pa_nil)) pa_nil))) pa_nil))))
      (C8.pss_cut (ps_set (i := 9) scLaw.nd rfl (Or.inr rfl) (C8.pe_c cS hr (by decide) (by rfl) (pa_cons (pv 1) (pa_cons (pe_lst (pa_cons pe_int (pa_cons pe_int (pa_cons pe_int (pa_cons pe_int (pa_cons pe_int (pa_cons pe_int (pa_cons pe_int (pa_cons (pe_un un_neg pe_int) (pa_cons pe_bl (pa_cons pe_bl (pa_cons pe_non (pa_cons pe_str (pa_cons (pe_lst pa_nil) (pa_cons (pe_op op_pow pe_int pe_int) (pa_cons (C8.pe_c cDe hr (by decide) (by rfl) (pa_cons (pv 1) pa_nil)) pa_nil)))))))))))))))) pa_nil))))
      (C8.pss_cut (ps_set (i := 11) scLaw.nd rfl (Or.inr rfl) (C8.pe_c cSt hr (by decide) (by rfl) (pa_cons (pv 1) (pa_cons (pe_callB call_len_seq (by rfl) T.len PySem.boot_len (pa_cons (pv 2) pa_nil)) pa_nil))))
      (C8.pss_cut (ps_set (i := 5) scLaw.nd rfl (Or.inl rfl) (pe_lst (pa_cons (pe_tup (pa_cons (C8.pe_c cPr hr (by decide) (by rfl) (pa_cons (pv 10) pa_nil)) (pa_cons pe_str pa_nil))) (pa_cons (pe_tup (pa_cons (C8.pe_c cWi hr (by decide) (by rfl) (pa_cons (pv 9) (pa_cons pe_int (pa_cons pe_int pa_nil)))) (pa_cons pe_str pa_nil))) pa_nil))))
      (C8.pss_cut (ps_if (pt_cmpR op_ne (pe_lamcall (T := [(PL, lamQ)]) (TT := TTword NP NN NS NX) (a := "_law_asked") (k := 10) (t := fun E => tCall (spBars K CT NP NN) [] E (tCons (tVar 12) (tCons (tVar 10) (tCons (tVar 9) tNil)))) (by rfl) mw kw lw cdw bw scWord rfl (Or.inl rfl) (word_gives T WC) TB rfl (List.mem_singleton.mpr rfl) (fun p hp _ => by rw [List.mem_singleton.mp hp] <;> rfl) hr (lamS_by (sc := defScope sLaw) (by decide +kernel)) rfl (fun _ _ _ _ _ => rfl)
          (fun A outer s H E f c' hr' => pe_call FB (hr'.mono (by decide)) (by rfl) mB kB bB .nil (passes_call (takes_of rfl rfl rfl rfl) (fun _ _ _ _ h => h)) (pa_cons (pv 12) (pa_cons (pv 10) (pa_cons (pv 9) pa_nil))))) (C8.pe_c cFi hr (by decide) (by rfl) (pa_cons (pv 5) pa_nil)) (nomark _)) (pss_one (ps_ret pe_bl)) pss_nil)
      (C8.pss_cut (ps_set (i := 5) scLaw.nd rfl (Or.inl rfl) (pe_op op_cat (pv 5) (pe_lst (pa_cons (pe_tup (pa_cons (C8.pe_c cAr hr (by decide) (by rfl) (pa_cons (pv 11) (pa_cons (pe_callB call_len_seq (by rfl) T.len PySem.boot_len (pa_cons (pv 2) pa_nil)) pa_nil))) (pa_cons pe_str pa_nil))) pa_nil))))
      (C8.pss_cut (ps_if (pt_cmpR op_ne (pe_lamcall (T := [(PL, lamQ)]) (TT := TTword NP NN NS NX) (a := "_law_asked") (k := 10) (t := fun E => tCall (spTP K CT NP NN NS) [] E (tCons (tVar 12) (tCons (tVar 10) (tCons (tVar 9) (tCons (tVar 11) tNil))))) (by rfl) mw kw lw cdw bw scWord rfl (Or.inl rfl) (word_gives T WC) TB rfl (List.mem_singleton.mpr rfl) (fun p hp _ => by rw [List.mem_singleton.mp hp] <;> rfl) hr (lamS_by (sc := defScope sLaw) (by decide +kernel)) rfl (fun _ _ _ _ _ => rfl)
          (fun A outer s H E f c' hr' => pe_call FP (hr'.mono (by decide)) (by rfl) mP kP bP .nil (passes_call (takes_of rfl rfl rfl rfl) (fun _ _ _ _ h => h)) (pa_cons (pv 12) (pa_cons (pv 10) (pa_cons (pv 9) (pa_cons (pv 11) pa_nil)))))) (C8.pe_c cFi hr (by decide) (by rfl) (pa_cons (pv 5) pa_nil)) (nomark _)) (pss_one (ps_ret pe_bl)) pss_nil)
      (C8.pss_cut (ps_set (i := 8) scLaw.nd rfl (Or.inr rfl) (C8.pe_c cS hr (by decide) (by rfl) (pa_cons (pv 1) (pa_cons (pe_op op_cat (pe_listRg rfl (by rfl) T.list (prg_2 (by rfl) T.rng (pe_un un_neg pe_int) (pe_op op_add (pe_callB call_len_seq (by rfl) T.len PySem.boot_len (pa_cons (pv 2) pa_nil)) pe_int))) (pe_lst (pa_cons pe_bl (pa_cons pe_non (pa_cons pe_str (pa_cons (pe_tup (pa_cons pe_int pa_nil)) (pa_cons (pe_op op_pow pe_int pe_int) (pa_cons (C8.pe_c cDe hr (by decide) (by rfl) (pa_cons (pv 1) pa_nil)) pa_nil)))))))) pa_nil))))
      (C8.pss_cut (ps_set (i := 6) scLaw.nd rfl (Or.inl rfl) (C8.pe_c cWi hr (by decide) (by rfl) (pa_cons (pv 8) (pa_cons pe_int (pa_cons (pe_op op_sub (pe_callB call_len_seq (by rfl) T.len PySem.boot_len (pa_cons (pv 2) pa_nil)) pe_int) pa_nil)))))
      (C8.pss_cut (ps_set (i := 7) scLaw.nd rfl (Or.inl rfl) (pe_and (pv 6) (pe_one (pe_cmpR (op_notInD (u65 hr)) (pe_ix ix_tup (pv 2) (pv 8) (fun _ _ => rfl)) (C8.pe_c cLF hr (by decide) (by rfl) (pa_cons (pe_ix ix_tup (pv 2) (pe_op op_add (pv 8) pe_int) (fun _ _ => rfl)) pa_nil)) (by rfl)))))
      (pss_one (ps_if (pt_cmpR op_ne (pe_lamcall (T := [(PL, lamQ)]) (TT := TTword NP NN NS NX) (a := "_law_asked") (k := 10) (t := fun E => tCall (spEx K CT NN NX) [] E (tCons (tVar 12) (tCons (tVar 8) tNil))) (by rfl) mw kw lw cdw bw scWord rfl (Or.inl rfl) (word_gives T WC) TB rfl (List.mem_singleton.mpr rfl) (fun p hp _ => by rw [List.mem_singleton.mp hp] <;> rfl) hr (lamS_by (sc := defScope sLaw) (by decide +kernel)) rfl (fun _ _ _ _ _ => rfl)
          (fun A outer s H E f c' hr' => pe_call FX (hr'.mono (by decide)) (by rfl) mX kX bX .nil (passes_call (takes_of rfl rfl rfl rfl) (fun _ _ _ _ h => h)) (pa_cons (pv 12) (pa_cons (pv 8) pa_nil)))) (C8.pe_c cFi hr (by decide) (by rfl) (pa_cons (pe_lst (pa_cons (pe_tup (pa_cons (pv 6) (pa_cons pe_str pa_nil))) (pa_cons (pe_tup (pa_cons (pv 7) (pa_cons pe_str pa_nil))) pa_nil))) pa_nil)) (nomark _)) (pss_one (ps_ret pe_bl)) pss_nil))))))))))))))
      (pss_one (ps_ret (pe_cmpR (op_eqD hr.units) (pe_fld (pv 12) rfl) (pv 2) (nomark _))))))), ?_⟩
    refine ⟨_, rfl, s0, ns, rfl, hS, hlen, fun r c H1 e1 bag => ?_⟩
    have tb1 : Tabs [(PL, lamQ)] H1 := fun q hq => by
      rw [List.mem_singleton.mp hq]
      exact TabS.nil (e1 _ _ hPL)
    refine ⟨_, rfl, _, rfl, r, c, 13, rfl, bag, by decide, by decide, fun n H2 n0 n13 g2 => ?_⟩
    obtain ⟨m, rfl⟩ : ∃ m : Nat, n = (m : Int) := ⟨n.toNat, by omega⟩
    refine ⟨r, c, m, rfl, g2.1, by omega, fun l as ll H3 g3 nl1 nl2 hl pt gd lam => ?_⟩
    refine ⟨l, _, rfl, SqL.of hl, fun b o nb ob => ?_⟩
    have x4 := Ext.upd (o := .frz o (.tup (as.map V.ref))) nb
    have la : as.length = ll.length := Paired.length pt
    have nbH := g3.1.ne nb
    have g4 := Go.of_ext g3.1 x4
    have tb4 := Tabs.go g3.1 g4 (Tabs.go g2.1 g3 (Tabs.go bag g2 tb1))
    have hb4 : (upd H3 b (.frz o (.tup (as.map V.ref)))) b = some (.frz o (.tup (as.map V.ref))) := upd_same
    have pt4 : PT2 (upd H3 b (.frz o (.tup (as.map V.ref)))) as ll := PT2.mono (fun _ _ z => x4 _ _ z) pt
    have bag4 := g4.1
    generalize upd H3 b (.frz o (.tup (as.map V.ref))) = H4 at *
    refine ⟨_, rfl, ?_⟩
    intro p dx np ndx nd
    have z2 := Ext.upd (o := .own p) ndx
    have np1 : (upd H4 dx (.own p)) p = Option.none := by rw [upd_ne nd.symm]; exact np
    have z3 := Ext.upd (o := .ins CT dx []) np1
    have z23 := z2.trans z3
    refine ⟨p, dx, b, ll, rfl, upd_same, ⟨as, .inr ⟨o, z23 _ _ hb4⟩, PT2.mono (fun _ _ z => z23 _ _ z) pt4⟩, by omega, gd, fun H5 hp kp => ⟨rfl, ?_⟩⟩
    have e5 : Ext H4 H5 := fun d u h => kp d u (ne_of_none h np) (z23 _ _ h)
    have g5 := Go.of_ext bag4 e5
    have li : LawI CT r c p b PL ll H5 := ⟨g5.1, ⟨dx, hp⟩, ⟨as, .inr ⟨o, e5 _ _ hb4⟩, PT2.mono (fun _ _ z => e5 _ _ z) pt4⟩, ⟨o, _, e5 _ _ hb4, ob⟩, tb4.ext e5⟩
    refine ⟨4, rfl, by decide, by decide, for_range (lo := 0) (n := 4) (fun i σ' J => (∃ v3 v4 v5 v6 v7 v8 v9 v10 v11 : Option V, σ' = [some (.ref s0), some (.ref r), some (.ref b), v3, v4, v5, v6, v7, v8, v9, v10, v11, some (.ref p)]) ∧ LawI CT r c p b PL ll J) ⟨⟨_, _, _, _, _, _, _, _, _, rfl⟩, li⟩ ?_ ?_⟩
    · rintro i σ' J hi ⟨⟨v3, v4, v5, v6, v7, v8, v9, v10, v11, rfl⟩, li⟩
      have st : G.StG r c (LawI CT r c p b PL ll) := fun _ _ _ g h => h.go g
      have l12 : ll.length ≤ 12 := by omega
      generalize hv3 : some (V.int (0 + (i : Nat))) = v3'
      -- menu
      refine ⟨fun σ' J => ∃ l1 : Addr, σ' = [some (.ref s0), some (.ref r), some (.ref b), v3', some (.ref l1), v5, v6, v7, v8, v9, v10, v11, some (.ref p)] ∧ LawI CT r c p b PL ll J ∧ G.Ths K (Off r c J) l1 18, ?_, ?_⟩
      · exact G.mk_ths (K := K) (I := LawI CT r c p b PL ll) (G.mk_cons st G.mk_int (G.mk_cons st G.mk_int (G.mk_cons st G.mk_int (G.mk_cons st G.mk_int (G.mk_cons st G.mk_int (G.mk_cons st G.mk_int (G.mk_cons st G.mk_int (G.mk_cons st G.mk_int (G.mk_cons st G.mk_int (G.mk_cons st G.mk_int (G.mk_cons st G.mk_int (G.mk_cons st G.mk_int (G.mk_cons st G.mk_neg (G.mk_cons st G.mk_bl (G.mk_cons st G.mk_non (G.mk_cons st G.mk_str (G.mk_cons st (G.mk_tup (G.mk_cons st G.mk_int G.mk_nil) (by decide)) (G.mk_cons st (fun H Q b i k => ⟨_, _, rfl, rfl, ⟨by decide, by decide, by decide⟩, _, _, rfl, rfl, k _ _ (Go.refl b) ⟨_, .int _⟩⟩) G.mk_nil)))))))))))))))))) (by decide) li.bag li (by decide) fun l1 J1 g1 th1 => ⟨l1, by rw [← hv3]; rfl, li.go g1, th1⟩
      clear hv3 hi li
      rintro σ' J ⟨l1, rfl, li, th1⟩
      -- prime
      refine ⟨fun σ' J => ∃ x : V, σ' = [some (.ref s0), some (.ref r), some (.ref b), v3', some (.ref l1), v5, v6, v7, v8, v9, some x, v11, some (.ref p)] ∧ LawI CT r c p b PL ll J ∧ G.AnyD K (Off r c J) x, ?_, ?_⟩
      · refine ⟨_, rfl, _, rfl, G.mk_ths (K := K) (I := LawI CT r c p b PL ll) (G.mk_cons st (fun H Q b i k => ⟨_, rfl, r, c, rfl, b, fun x H5 g a => k x H5 g a⟩) G.mk_nil) (by decide) li.bag li (by decide) fun l2 J2 g2 th2 => G.cat_ths (li.go g2).bag (th1.ext g2.off) th2 (by decide) fun l3 J3 g3 th3 => ?_⟩
        replace li := (li.go g2).go g3
        exact some_of (E := C8.E0) li.bag th3 (by decide) fun x J4 g4 ax => ⟨x, rfl, li.go g4, ax⟩
      clear li th1
      rintro σ' J ⟨x, rfl, li, ax⟩
      -- depth
      refine ⟨fun σ' J => ∃ y : V, σ' = [some (.ref s0), some (.ref r), some (.ref b), v3', some (.ref l1), v5, v6, v7, v8, some y, some x, v11, some (.ref p)] ∧ LawI CT r c p b PL ll J ∧ G.AnyD K (Off r c J) x ∧ G.AnyD K (Off r c J) y, ?_, ?_⟩
      · refine ⟨_, rfl, G.mk_ths (K := K) (I := LawI CT r c p b PL ll) (G.mk_cons st G.mk_int (G.mk_cons st G.mk_int (G.mk_cons st G.mk_int (G.mk_cons st G.mk_int (G.mk_cons st G.mk_int (G.mk_cons st G.mk_int (G.mk_cons st G.mk_int (G.mk_cons st G.mk_neg (G.mk_cons st G.mk_bl (G.mk_cons st G.mk_bl (G.mk_cons st G.mk_non (G.mk_cons st G.mk_str (G.mk_cons st (G.mk_lst G.mk_nil (by decide)) (G.mk_cons st (fun H Q b i k => ⟨_, _, rfl, rfl, ⟨by decide, by decide, by decide⟩, k _ _ (Go.refl b) ⟨_, .int _⟩⟩) (G.mk_cons st (fun H Q b i k => ⟨_, rfl, r, c, rfl, b, fun x H5 g a => k x H5 g a⟩) G.mk_nil))))))))))))))) (by decide) li.bag li (by decide) fun l5 J5 g5 th5 => ?_⟩
        replace li := li.go g5
        exact some_of (E := C8.E0) li.bag th5 (by decide) fun y J6 g6 ay => ⟨y, rfl, li.go g6, (ax.ext g5.off).ext g6.off, ay⟩
      clear li ax
      rintro σ' J ⟨y, rfl, li, ax, ay⟩
      -- stops
      refine ⟨fun σ' J => ∃ z : V, σ' = [some (.ref s0), some (.ref r), some (.ref b), v3', some (.ref l1), v5, v6, v7, v8, some y, some x, some z, some (.ref p)] ∧ LawI CT r c p b PL ll J ∧ G.AnyD K (Off r c J) x ∧ G.AnyD K (Off r c J) y ∧ G.AnyD K (Off r c J) z, ?_, ?_⟩
      · obtain ⟨as6, hb6, pt6⟩ := id li.tr
        have la6 : as6.length = ll.length := Paired.length pt6
        exact ⟨_, rfl, _, rfl, b, _, rfl, .inr (.inl hb6), r, c, ll.length, by rw [List.length_map, la6]; rfl, li.bag, by omega, fun z J7 g7 az => ⟨z, rfl, li.go g7, ax.ext g7.off, ay.ext g7.off, az⟩⟩
      clear li ax ay
      rintro σ' J ⟨z, rfl, li, ax, ay, az⟩
      -- the first two pairs
      refine ⟨fun σ' J => ∃ q : Addr, σ' = [some (.ref s0), some (.ref r), some (.ref b), v3', some (.ref l1), some (.ref q), v6, v7, v8, some y, some x, some z, some (.ref p)] ∧ LawI CT r c p b PL ll J ∧ G.AnyD K (Off r c J) x ∧ G.AnyD K (Off r c J) y ∧ G.AnyD K (Off r c J) z ∧ PairsAt J q [(primeV x, "prime"), (numV 3 y, "number")], ?_, ?_⟩
      · obtain ⟨dx1, tx⟩ := id ax
        obtain ⟨dy1, ty⟩ := id ay
        refine ⟨_, rfl, x, rfl, (tx.ext off_le).th, fun H1 e1 => ⟨by show 2 ≤ sizeLine; decide, fun t1 n1 => ?_⟩⟩
        have e2 := e1.trans (Ext.upd (o := .tup [.bl (primeV x), .str "prime"]) n1)
        have h1 : (upd H1 t1 (.tup [.bl (primeV x), .str "prime"])) t1 = some (.tup [.bl (primeV x), .str "prime"]) := upd_same
        generalize upd H1 t1 (.tup [.bl (primeV x), .str "prime"]) = H2 at *
        refine ⟨_, rfl, y, 0, 3, rfl, ((ty.ext off_le).ext e2).th, ⟨by show 2 ≤ sizeLine; decide, fun t2 n2 => ⟨by show 2 ≤ sizeLine; decide, fun q nq => ?_⟩⟩⟩
        rw [within_num] at nq ⊢
        have e3 := Ext.upd (o := .tup [.bl (numV 3 y), .str "number"]) n2
        have h2 : (upd H2 t2 (.tup [.bl (numV 3 y), .str "number"])) t2 = some (.tup [.bl (numV 3 y), .str "number"]) := upd_same
        generalize upd H2 t2 (.tup [.bl (numV 3 y), .str "number"]) = H3 at *
        have e4 := Ext.upd (o := .lst [.ref t1, .ref t2]) nq
        have g := Go.of_ext li.bag ((e2.trans e3).trans e4)
        exact ⟨q, rfl, li.go g, ax.ext g.off, ay.ext g.off, az.ext g.off, [t1, t2], upd_same, .cons ((e3.trans e4) _ _ h1) (.cons (e4 _ _ h2) .nil)⟩
      clear li ax ay az
      rintro σ' J ⟨q, rfl, li, ax, ay, az, pq⟩
      -- tower_bars
      refine ⟨fun σ' J => σ' = [some (.ref s0), some (.ref r), some (.ref b), v3', some (.ref l1), some (.ref q), v6, v7, v8, some y, some x, some z, some (.ref p)] ∧ LawI CT r c p b PL ll J ∧ G.AnyD K (Off r c J) x ∧ G.AnyD K (Off r c J) y ∧ G.AnyD K (Off r c J) z ∧ PairsAt J q [(primeV x, "prime"), (numV 3 y, "number")], ?_, ?_⟩
      · refine ⟨li.tabs, fun H1 x1 tb1 => ⟨_, rfl, _, rfl, _, rfl, ?_⟩⟩
        dsimp only [tNil]
        replace li := li.extN x1 tb1
        replace ax := any_extN x1 ax
        replace ay := any_extN x1 ay
        replace az := any_extN x1 az
        replace pq := pq.extN x1
        obtain ⟨dx1, tx⟩ := id ax
        obtain ⟨dy1, ty⟩ := id ay
        refine bars_word li gd (by omega) (tx.ext off_le).th (ty.ext off_le).th fun H2 e2 => ?_
        have g := Go.of_ext li.bag e2
        refine ⟨_, rfl, ?_⟩
        dsimp only [tNil]
        exact first_of (pq.ext e2) (same_word ⟨_, rfl, iteF ⟨rfl, li.go g, ax.ext g.off, ay.ext g.off, az.ext g.off, pq.ext e2⟩⟩)
      clear li ax ay az pq
      rintro σ' J ⟨rfl, li, ax, ay, az, pq⟩
      -- the third pair
      refine ⟨fun σ' J => ∃ (bb : Bool) (q2 : Addr), σ' = [some (.ref s0), some (.ref r), some (.ref b), v3', some (.ref l1), some (.ref q2), v6, v7, v8, some y, some x, some z, some (.ref p)] ∧ LawI CT r c p b PL ll J ∧ G.AnyD K (Off r c J) x ∧ G.AnyD K (Off r c J) y ∧ (∃ d, G.TD K (Off r c J) z d ∧ (bb = true ↔ StopsP (ll.length : Int) d)) ∧ PairsAt J q2 [(primeV x, "prime"), (numV 3 y, "number"), (bb, "stops")], ?_, ?_⟩
      · obtain ⟨as6, hb6, pt6⟩ := id li.tr
        have la6 : as6.length = ll.length := Paired.length pt6
        obtain ⟨dz1, tz⟩ := id az
        refine ⟨_, rfl, _, rfl, _, rfl, b, _, rfl, .inr (.inl hb6), z, dz1, ll.length, by rw [List.length_map, la6]; rfl, tz.ext off_le, fun bb hbb => ⟨by show 2 ≤ sizeLine; decide, fun t1 n1 => ⟨by show 1 ≤ sizeLine; decide, fun q1 n2 => ?_⟩⟩⟩
        obtain ⟨as, hq, pp⟩ := pq
        have las : as.length = 2 := Paired.length pp
        have e1 := Ext.upd (o := .tup [.bl bb, .str "stops"]) n1
        have h1 : (upd J t1 (.tup [.bl bb, .str "stops"])) t1 = some (.tup [.bl bb, .str "stops"]) := upd_same
        generalize upd J t1 (.tup [.bl bb, .str "stops"]) = H1 at *
        have e2 := Ext.upd (o := .lst [.ref t1]) n2
        refine ⟨q, q1, as.map V.ref, [.ref t1], rfl, rfl, (e1.trans e2) _ _ hq, upd_same, Nat.le_trans (show (as.map V.ref).length + 1 ≤ 1000 by rw [List.length_map, las]; decide) (by decide), fun q2 n3 => ?_⟩
        have e3 := Ext.upd (o := .lst (as.map V.ref ++ [.ref t1])) n3
        have e := (e1.trans e2).trans e3
        have g := Go.of_ext li.bag e
        refine ⟨bb, q2, rfl, li.go g, ax.ext g.off, ay.ext g.off, ⟨dz1, tz.ext g.off, hbb⟩, as ++ [t1], ?_, Paired.snoc (Paired.imp' (fun _ _ z => e _ _ z) pp) ((e2.trans e3) _ _ h1)⟩
        rw [List.map_append]
        exact upd_same
      clear li ax ay az pq
      rintro σ' J ⟨bb, q2, rfl, li, ax, ay, az, pq⟩
      -- tower_picture
      refine ⟨fun σ' J => σ' = [some (.ref s0), some (.ref r), some (.ref b), v3', some (.ref l1), some (.ref q2), v6, v7, v8, some y, some x, some z, some (.ref p)] ∧ LawI CT r c p b PL ll J, ?_, ?_⟩
      · refine ⟨li.tabs, fun H1 x1 tb1 => ⟨_, rfl, _, rfl, _, rfl, _, rfl, ?_⟩⟩
        dsimp only [tNil]
        replace li := li.extN x1 tb1
        replace ax := any_extN x1 ax
        replace ay := any_extN x1 ay
        replace pq := pq.extN x1
        obtain ⟨dz1, tz, hbb⟩ := az
        obtain ⟨dx1, tx⟩ := id ax
        obtain ⟨dy1, ty⟩ := id ay
        refine pic_word li gd (by omega) (tx.ext off_le).th (ty.ext off_le).th ((td_extN (off_extN x1) tz).ext off_le) hbb fun H2 e2 => ?_
        refine ⟨_, rfl, ?_⟩
        dsimp only [tNil]
        exact first_of (pq.ext e2) (same_word ⟨_, rfl, iteF ⟨rfl, li.go (Go.of_ext li.bag e2)⟩⟩)
      clear li ax ay az pq
      rintro σ' J ⟨rfl, li⟩
      -- a place
      refine ⟨fun σ' J => ∃ x8 : V, σ' = [some (.ref s0), some (.ref r), some (.ref b), v3', some (.ref l1), some (.ref q2), v6, v7, some x8, some y, some x, some z, some (.ref p)] ∧ LawI CT r c p b PL ll J ∧ G.AnyD K (Off r c J) x8, ?_, ?_⟩
      · obtain ⟨as6, hb6, pt6⟩ := id li.tr
        have la6 : as6.length = ll.length := Paired.length pt6
        refine ⟨_, rfl, 1, rfl, _, rfl, b, _, rfl, .inr (.inl hb6), _, _, rfl, rfl, _, _, rfl, rfl, ⟨by decide, by decide, by rw [List.length_map, la6]; omega, by rw [List.length_map, la6]; omega, by rw [List.length_map, la6]; omega⟩, fun l nl => ?_⟩
        rw [List.length_map, la6]
        obtain ⟨ns, en, ln⟩ := rg_ints (-1) ((ll.length : Int) + 1)
        rw [en]
        have th1 : G.Ths K (Off r c (upd J l (.lst (ns.map V.int)))) l 14 := ⟨_, off_at (li.bag.ne nl) upd_same, by rw [List.length_map]; omega, by rw [List.length_map]; omega, fun u hu => by
          obtain ⟨u0, _, rfl⟩ := List.mem_map.mp hu
          exact ⟨_, .int u0⟩⟩
        replace li := li.go (Go.new (o := .lst (ns.map V.int)) li.bag nl)
        generalize upd J l (.lst (ns.map V.int)) = J1 at *
        refine G.mk_ths (K := K) (I := LawI CT r c p b PL ll) (G.mk_cons st G.mk_bl (G.mk_cons st G.mk_non (G.mk_cons st G.mk_str (G.mk_cons st (G.mk_tup (G.mk_cons st G.mk_int G.mk_nil) (by decide)) (G.mk_cons st (fun H Q b i k => ⟨_, _, rfl, rfl, ⟨by decide, by decide, by decide⟩, k _ _ (Go.refl b) ⟨_, .int _⟩⟩) (G.mk_cons st (fun H Q b i k => ⟨_, rfl, r, c, rfl, b, fun x H5 g a => k x H5 g a⟩) G.mk_nil)))))) (by decide) li.bag li (by decide) fun l2 J2 g2 th2 => G.cat_ths (li.go g2).bag (th1.ext g2.off) th2 (by decide) fun l3 J3 g3 th3 => ?_
        replace li := (li.go g2).go g3
        exact some_of (E := C8.E0) li.bag th3 (by decide) fun x8 J4 g4 ax => ⟨x8, rfl, li.go g4, ax⟩
      clear li
      rintro σ' J ⟨x8, rfl, li, ax⟩
      -- whether it is one
      refine ⟨fun σ' J => σ' = [some (.ref s0), some (.ref r), some (.ref b), v3', some (.ref l1), some (.ref q2), some (.bl (numV ((ll.length : Int) - 2) x8)), v7, some x8, some y, some x, some z, some (.ref p)] ∧ LawI CT r c p b PL ll J ∧ G.AnyD K (Off r c J) x8, ?_, ?_⟩
      · obtain ⟨as6, hb6, pt6⟩ := id li.tr
        have la6 : as6.length = ll.length := Paired.length pt6
        obtain ⟨dx1, tx⟩ := id ax
        refine ⟨_, rfl, _, rfl, b, _, rfl, .inr (.inl hb6), _, _, rfl, rfl, x8, 0, _, rfl, (tx.ext off_le).th, ?_⟩
        rw [within_num, List.length_map, la6]
        exact ⟨rfl, li, ax⟩
      clear li ax
      rintro σ' J ⟨rfl, li, ax⟩
      -- whether it is free
      refine ⟨fun σ' J => ∃ ff : Bool, σ' = [some (.ref s0), some (.ref r), some (.ref b), v3', some (.ref l1), some (.ref q2), some (.bl (numV ((ll.length : Int) - 2) x8)), some (.bl ff), some x8, some y, some x, some z, some (.ref p)] ∧ LawI CT r c p b PL ll J ∧ G.AnyD K (Off r c J) x8 ∧ ∀ (k : Nat) (l1 l2 : List Int), x8 = .int (k : Int) → ll[k]? = some l1 → ll[k + 1]? = some l2 → (ff = true ↔ l1 ∉ facesL l2), ?_, ?_⟩
      · refine ⟨_, rfl, _, rfl, ?_⟩
        cases hn : numV ((ll.length : Int) - 2) x8 with
        | false =>
          refine iteF ⟨false, rfl, li, ax, fun j l1 l2 e h1 h2 => ?_⟩
          have := (List.getElem?_eq_some_iff.mp h2).1
          rw [numV_true.mpr ⟨(j : Int), e, by omega, by omega⟩] at hn
          cases hn
        | true =>
          refine iteT ?_
          obtain ⟨k0, rfl, k00, k01⟩ := numV_true.mp hn
          obtain ⟨k1, rfl⟩ : ∃ k1 : Nat, k0 = (k1 : Int) := ⟨k0.toNat, by omega⟩
          obtain ⟨as, hb, pt⟩ := id li.tr
          have ln : as.length = ll.length := Paired.length pt
          have a1 : as[k1]? = some as[k1] := List.getElem?_eq_getElem (by omega)
          have a2 : as[k1 + 1]? = some as[k1 + 1] := List.getElem?_eq_getElem (by omega)
          generalize as[k1] = c1 at *
          generalize as[k1 + 1] = c2 at *
          obtain ⟨l1, h1, hc1⟩ := pt.get a1
          obtain ⟨l2, h2, hc2⟩ := pt.get a2
          have w1 : (as.map V.ref)[k1]? = some (.ref c1) := by rw [List.getElem?_map, a1]; rfl
          have w2 : (as.map V.ref)[k1 + 1]? = some (.ref c2) := by rw [List.getElem?_map, a2]; rfl
          refine ⟨_, rfl, _, rfl, b, _, _, _, rfl, rfl, .inl hb, at_of (j := k1) (by omega) w1, ?_⟩
          refine ⟨_, rfl, _, rfl, _, _, rfl, rfl, b, _, _, _, rfl, rfl, .inl hb, at_of (j := k1 + 1) (by omega) w2, ?_⟩
          have cl2 := good_cells gd l2 (List.mem_of_getElem? h2)
          refine ⟨c2, l2, rfl, hc2, cl2.1, cl2.2.1, fun fl fs H1 e1 hf pf => ?_⟩
          have g := Go.of_ext li.bag e1
          refine notin_L (e1 _ _ hc1) hf pf ⟨_, rfl, li.go g, ax.ext g.off, fun j m1 m2 e e1 e2 => ?_⟩
          injection e with e
          have ej : k1 = j := by omega
          subst ej
          rw [h1] at e1
          rw [h2] at e2
          cases e1
          cases e2
          by_cases m : l1 ∈ facesL l2 <;> simp [m]
      clear li ax
      rintro σ' J ⟨ff, rfl, li, ax, hf⟩
      -- exchanged
      refine ⟨li.tabs, fun H1 x1 tb1 => ⟨_, rfl, _, rfl, ?_⟩⟩
      dsimp only [tNil]
      replace li := li.extN x1 tb1
      obtain ⟨dx1, tx⟩ := any_extN x1 ax
      refine ex_word li gd (by omega) (tx.ext off_le).th hf fun H2 e2 => ?_
      refine ⟨_, rfl, by show 2 ≤ sizeLine; decide, fun t1 n1 => ⟨_, rfl, by show 2 ≤ sizeLine; decide, fun t2 n2 => ⟨by show 2 ≤ sizeLine; decide, fun q nq => ?_⟩⟩⟩
      dsimp only [tNil]
      have e3 := Ext.upd (o := .tup [.bl (numV ((ll.length : Int) - 2) x8), .str "number"]) n1
      have h1 : (upd H2 t1 (.tup [.bl (numV ((ll.length : Int) - 2) x8), .str "number"])) t1 = some (.tup [.bl (numV ((ll.length : Int) - 2) x8), .str "number"]) := upd_same
      generalize upd H2 t1 (.tup [.bl (numV ((ll.length : Int) - 2) x8), .str "number"]) = H3 at *
      have e4 := Ext.upd (o := .tup [.bl ff, .str "exchange"]) n2
      have h2 : (upd H3 t2 (.tup [.bl ff, .str "exchange"])) t2 = some (.tup [.bl ff, .str "exchange"]) := upd_same
      generalize upd H3 t2 (.tup [.bl ff, .str "exchange"]) = H4' at *
      have e5' := Ext.upd (o := .lst [.ref t1, .ref t2]) nq
      refine first_of (ps := [(numV ((ll.length : Int) - 2) x8, "number"), (ff, "exchange")]) ⟨[t1, t2], upd_same, .cons ((e4.trans e5') _ _ h1) (.cons (e5' _ _ h2) .nil)⟩ (same_word ⟨_, rfl, iteF ?_⟩)
      exact ⟨⟨_, _, _, _, _, _, _, _, _, rfl⟩, li.go (Go.of_ext li.bag (((e2.trans e3).trans e4).trans e5'))⟩
    · rintro σ' J ⟨⟨v3, v4, v5, v6, v7, v8, v9, v10, v11, rfl⟩, li⟩
      obtain ⟨dx', hp'⟩ := li.tow
      have tD := li.tr.dp (K := K)
      refine ⟨_, rfl, p, CT, dx', _, _, rfl, hp', W.cl, W.nC, cf_cells _, _, rfl, _, _, tD, tD, shaped_dT _, shaped_dT _, ?_⟩
      have eq : PyData.eqv (PyData.tuple (ll.map tI)) (PyData.tuple (ll.map tI)) = true := by
        have := eqv_dT ll ll
        rw [decide_eq_true rfl] at this
        exact this
      rw [eq]
      exact k _
end
end V44

set_option Elab.async false
set_option linter.all false
set_option maxRecDepth 100000
set_option maxHeartbeats 8000000
namespace V44
open PySem L2 LamX
theorem exm_self {K : PySem.W.Frag} {S : Addr} (h1 : PySem.W.subIn K (.ref S) (.type "BaseException") = some true) (h2 : PySem.W.isClsIn K S = true) (h3 : PySem.W.typeIn K (.ref S) = some (.type "type")) (h4 : PySem.W.subIn K (.ref S) (.ref S) = some true) :
    PySem.W.exmOne K (.ref S) (.ref S) = some true := by
  have h2' : (PySem.W.clsIn K S).isSome = true := h2
  unfold PySem.W.exmOne PySem.W.kitCls
  simp only [h1, h2', h3, h4, beq_self_eq_true, Bool.and_self, if_true]
theorem kit_ref {K : PySem.W.Frag} {t : Value} {C : Addr} {b : Bool} (h2 : PySem.W.isClsIn K C = true) (h3 : PySem.W.typeIn K (.ref C) = some (.type "type")) (h4 : PySem.W.subIn K (.ref C) (.ref C) = some true) (h5 : PySem.W.subIn K t (.ref C) = some b) :
    PySem.W.kitOne K t (.ref C) = some b := by
  have h2' : (PySem.W.clsIn K C).isSome = true := h2
  unfold PySem.W.kitOne PySem.W.kitCls
  by_cases e : (t == .ref C) = true
  · have e' := beq_iff_eq.mp e
    subst e'
    rw [h4] at h5
    rw [if_pos e, ← h5]
  · rw [if_neg e]
    simp only [h2', h3, h5, beq_self_eq_true, Bool.and_self, if_true]
theorem kit_tyc {K : PySem.W.Frag} {C : Addr} {s : String} {b : Bool} (h : PySem.W.kitMeta s = true) (h5 : PySem.W.subIn K (.ref C) (.type s) = some b) : PySem.W.kitOne K (.ref C) (.type s) = some b := by
  unfold PySem.W.kitOne PySem.W.kitCls
  rw [if_neg (by intro z; exact nomatch beq_iff_eq.mp z)]
  simp only [h, h5, if_true]
theorem exm_ref {K : PySem.W.Frag} {t : Value} {S : Addr} {b : Bool} (h1 : PySem.W.subIn K (.ref S) (.type "BaseException") = some true) (h2 : PySem.W.isClsIn K S = true) (h3 : PySem.W.typeIn K (.ref S) = some (.type "type")) (h4 : PySem.W.subIn K t (.ref S) = some b) :
    PySem.W.exmOne K t (.ref S) = some b := by
  have h2' : (PySem.W.clsIn K S).isSome = true := h2
  unfold PySem.W.exmOne PySem.W.kitCls
  simp only [h1, h2', h3, h4, beq_self_eq_true, Bool.and_self, if_true]
theorem all_mk {l : PySem.W.OpenLaw} {w : World} {K : PySem.W.Frag} {h : Heap} {mg : Str → Option Value} {fa : Addr} {aPR CT CB CW CP NP NN NS NX CE f2 f3 f4 f6 f20 f21 f22 f23 f24 f25 f29 f30 f31 f37 f38 f42 f43 f44 f46 f54 f55 f56 f57 f58 f59 f60 f62 f63 f64 f65 f66 f67 f68 f69 f70 f71 f72 f73 f74 f75 fT fB fW fP fI cL PL : Addr} (X : K.In h) (G : h.Ns mainGlobals mg) (hfa : mg "law" = some (.ref fa))
    {odPR : Option Addr} {slPR : Array (Option Value)} {itsPR : Array Value} {nPR : Nat}
    {oc2 kV2 dc2 pm2 cd2 ct2 : Value} {od2 an2 : Option Addr} {sl2 : Array (Option Value)}
    {oc3 kV3 dc3 pm3 cd3 ct3 : Value} {od3 an3 : Option Addr} {sl3 : Array (Option Value)}
    {oc4 kV4 dc4 pm4 cd4 ct4 : Value} {od4 an4 : Option Addr} {sl4 : Array (Option Value)}
    {oc6 kV6 dc6 pm6 cd6 ct6 : Value} {od6 an6 : Option Addr} {sl6 : Array (Option Value)}
    {oc20 kV20 dc20 pm20 cd20 ct20 : Value} {od20 an20 : Option Addr} {sl20 : Array (Option Value)}
    {oc21 kV21 dc21 pm21 cd21 ct21 : Value} {od21 an21 : Option Addr} {sl21 : Array (Option Value)}
    {oc22 kV22 dc22 pm22 cd22 ct22 : Value} {od22 an22 : Option Addr} {sl22 : Array (Option Value)}
    {oc23 kV23 dc23 pm23 cd23 ct23 : Value} {od23 an23 : Option Addr} {sl23 : Array (Option Value)}
    {oc24 kV24 dc24 pm24 cd24 ct24 : Value} {od24 an24 : Option Addr} {sl24 : Array (Option Value)}
    {oc25 kV25 dc25 pm25 cd25 ct25 : Value} {od25 an25 : Option Addr} {sl25 : Array (Option Value)}
    {oc29 kV29 dc29 pm29 cd29 ct29 : Value} {od29 an29 : Option Addr} {sl29 : Array (Option Value)}
    {oc30 kV30 dc30 pm30 cd30 ct30 : Value} {od30 an30 : Option Addr} {sl30 : Array (Option Value)}
    {oc31 kV31 dc31 pm31 cd31 ct31 : Value} {od31 an31 : Option Addr} {sl31 : Array (Option Value)}
    {oc37 kV37 dc37 pm37 cd37 ct37 : Value} {od37 an37 : Option Addr} {sl37 : Array (Option Value)}
    {oc38 kV38 dc38 pm38 cd38 ct38 : Value} {od38 an38 : Option Addr} {sl38 : Array (Option Value)}
    {oc42 kV42 dc42 pm42 cd42 ct42 : Value} {od42 an42 : Option Addr} {sl42 : Array (Option Value)}
    {oc43 kV43 dc43 pm43 cd43 ct43 : Value} {od43 an43 : Option Addr} {sl43 : Array (Option Value)}
    {oc44 kV44 dc44 pm44 cd44 ct44 : Value} {od44 an44 : Option Addr} {sl44 : Array (Option Value)}
    {oc46 kV46 dc46 pm46 cd46 ct46 : Value} {od46 an46 : Option Addr} {sl46 : Array (Option Value)}
    {oc54 kV54 dc54 pm54 cd54 ct54 : Value} {od54 an54 : Option Addr} {sl54 : Array (Option Value)}
    {oc55 kV55 dc55 pm55 cd55 ct55 : Value} {od55 an55 : Option Addr} {sl55 : Array (Option Value)}
    {oc56 kV56 dc56 pm56 cd56 ct56 : Value} {od56 an56 : Option Addr} {sl56 : Array (Option Value)}
    {oc57 kV57 dc57 pm57 cd57 ct57 : Value} {od57 an57 : Option Addr} {sl57 : Array (Option Value)}
    {oc58 kV58 dc58 pm58 cd58 ct58 : Value} {od58 an58 : Option Addr} {sl58 : Array (Option Value)}
    {oc59 kV59 dc59 pm59 cd59 ct59 : Value} {od59 an59 : Option Addr} {sl59 : Array (Option Value)}
    {oc60 kV60 dc60 pm60 cd60 ct60 : Value} {od60 an60 : Option Addr} {sl60 : Array (Option Value)}
    {oc62 kV62 dc62 pm62 cd62 ct62 : Value} {od62 an62 : Option Addr} {sl62 : Array (Option Value)}
    {oc63 kV63 dc63 pm63 cd63 ct63 : Value} {od63 an63 : Option Addr} {sl63 : Array (Option Value)}
    {oc64 kV64 dc64 pm64 cd64 ct64 : Value} {od64 an64 : Option Addr} {sl64 : Array (Option Value)}
    {oc65 kV65 dc65 pm65 cd65 ct65 : Value} {od65 an65 : Option Addr} {sl65 : Array (Option Value)}
    {oc66 kV66 dc66 pm66 cd66 ct66 : Value} {od66 an66 : Option Addr} {sl66 : Array (Option Value)}
    {oc67 kV67 dc67 pm67 cd67 ct67 : Value} {od67 an67 : Option Addr} {sl67 : Array (Option Value)}
    {oc68 kV68 dc68 pm68 cd68 ct68 : Value} {od68 an68 : Option Addr} {sl68 : Array (Option Value)}
    {oc69 kV69 dc69 pm69 cd69 ct69 : Value} {od69 an69 : Option Addr} {sl69 : Array (Option Value)}
    {oc70 kV70 dc70 pm70 cd70 ct70 : Value} {od70 an70 : Option Addr} {sl70 : Array (Option Value)}
    {oc71 kV71 dc71 pm71 cd71 ct71 : Value} {od71 an71 : Option Addr} {sl71 : Array (Option Value)}
    {oc72 kV72 dc72 pm72 cd72 ct72 : Value} {od72 an72 : Option Addr} {sl72 : Array (Option Value)}
    {oc73 kV73 dc73 pm73 cd73 ct73 : Value} {od73 an73 : Option Addr} {sl73 : Array (Option Value)}
    {oc74 kV74 dc74 pm74 cd74 ct74 : Value} {od74 an74 : Option Addr} {sl74 : Array (Option Value)}
    {oc75 kV75 dc75 pm75 ct75 : Value} {od75 an75 : Option Addr} {sl75 : Array (Option Value)}
    {ocT kVT dcT pmT cdT ctT : Value} {odT anT : Option Addr} {slT : Array (Option Value)}
    {ocB kVB dcB pmB cdB ctB : Value} {odB anB : Option Addr} {slB : Array (Option Value)}
    {ocW kVW dcW pmW cdW ctW : Value} {odW anW : Option Addr} {slW : Array (Option Value)}
    {ocP kVP dcP pmP cdP ctP : Value} {odP anP : Option Addr} {slP : Array (Option Value)}
    {ocI kVI dcI pmI cdI ctI : Value} {odI anI : Option Addr} {slI : Array (Option Value)}
    {tMOST}
    {tMOST_PLACES}
    {tMOST_ARROWS}
    {tMOST_SIGNS}
    {tMOST_SIZE}
    {tMOST_CELLS}
    {tMOST_IN_CELL}
    {tMOST_NAME}
    {tMOST_DEEP}
    {tMOST_STOPS}
    {nmNP qNP : Str} {NNP : Addr} {bsNP bmNP : List Value} {snNP : List Str} {subNP : List Value} {abNP : Bool} {colNP : Option Bool} {ddNP : Option Addr} {m0NP m1NP m2NP m3NP m5NP : Option Value}
    {nmNN qNN : Str} {NNN : Addr} {bsNN bmNN : List Value} {snNN : List Str} {subNN : List Value} {abNN : Bool} {colNN : Option Bool} {ddNN : Option Addr} {m0NN m1NN m2NN m3NN m5NN : Option Value}
    {nmNS qNS : Str} {NNS : Addr} {bsNS bmNS : List Value} {snNS : List Str} {subNS : List Value} {abNS : Bool} {colNS : Option Bool} {ddNS : Option Addr} {m0NS m1NS m2NS m3NS m5NS : Option Value}
    {nmNX qNX : Str} {NNX : Addr} {bsNX bmNX : List Value} {snNX : List Str} {subNX : List Value} {abNX : Bool} {colNX : Option Bool} {ddNX : Option Addr} {m0NX m1NX m2NX m3NX m5NX : Option Value}
    (gCT : PySem.W.nsIn K mainGlobals "Tower" = some (some (.ref CT)))
    (gCB : PySem.W.nsIn K mainGlobals "Table" = some (some (.ref CB)))
    (gCW : PySem.W.nsIn K mainGlobals "Web" = some (some (.ref CW)))
    (gCP : PySem.W.nsIn K mainGlobals "Picture" = some (some (.ref CP)))
    (gNP : PySem.W.nsIn K mainGlobals "NoPrime" = some (some (.ref NP)))
    (gNN : PySem.W.nsIn K mainGlobals "NoNumber" = some (some (.ref NN)))
    (gNS : PySem.W.nsIn K mainGlobals "NoStops" = some (some (.ref NS)))
    (gNX : PySem.W.nsIn K mainGlobals "NoExchange" = some (some (.ref NX)))
    (gCE : PySem.W.nsIn K mainGlobals "WebError" = some (some (.ref CE)))
    (a2 : PySem.W.nsIn K mainGlobals "is_integer" = some (some (.ref f2)))
    (l2 : K.lookup f2 = some ⟨oc2, od2, .func (PySem.W.fnOf "is_integer" "is_integer" (defArgs sInteger) (defBody sInteger) (defScope sInteger) .none kV2 dc2 pm2 an2 cd2 ct2), sl2⟩)
    (c2 : PySem.W.codeIn K cd2 "is_integer" = true)
    (k2 : PySem.W.keepIn K (.ref f2) = true)
    (a3 : PySem.W.nsIn K mainGlobals "is_number" = some (some (.ref f3)))
    (l3 : K.lookup f3 = some ⟨oc3, od3, .func (PySem.W.fnOf "is_number" "is_number" (defArgs sNumber) (defBody sNumber) (defScope sNumber) .none kV3 dc3 pm3 an3 cd3 ct3), sl3⟩)
    (c3 : PySem.W.codeIn K cd3 "is_number" = true)
    (k3 : PySem.W.keepIn K (.ref f3) = true)
    (a4 : PySem.W.nsIn K mainGlobals "is_prime" = some (some (.ref f4)))
    (l4 : K.lookup f4 = some ⟨oc4, od4, .func (PySem.W.fnOf "is_prime" "is_prime" (defArgs sPrime) (defBody sPrime) (defScope sPrime) .none kV4 dc4 pm4 an4 cd4 ct4), sl4⟩)
    (c4 : PySem.W.codeIn K cd4 "is_prime" = true)
    (k4 : PySem.W.keepIn K (.ref f4) = true)
    (a6 : PySem.W.nsIn K mainGlobals "is_ascending" = some (some (.ref f6)))
    (l6 : K.lookup f6 = some ⟨oc6, od6, .func (PySem.W.fnOf "is_ascending" "is_ascending" (defArgs sAsc) (defBody sAsc) (defScope sAsc) .none kV6 dc6 pm6 an6 cd6 ct6), sl6⟩)
    (c6 : PySem.W.codeIn K cd6 "is_ascending" = true)
    (k6 : PySem.W.keepIn K (.ref f6) = true)
    (a20 : PySem.W.nsIn K mainGlobals "inverse" = some (some (.ref f20)))
    (l20 : K.lookup f20 = some ⟨oc20, od20, .func (PySem.W.fnOf "inverse" "inverse" (defArgs sInv) (defBody sInv) (defScope sInv) .none kV20 dc20 pm20 an20 cd20 ct20), sl20⟩)
    (c20 : PySem.W.codeIn K cd20 "inverse" = true)
    (k20 : PySem.W.keepIn K (.ref f20) = true)
    (a21 : PySem.W.nsIn K mainGlobals "pivot" = some (some (.ref f21)))
    (l21 : K.lookup f21 = some ⟨oc21, od21, .func (PySem.W.fnOf "pivot" "pivot" (defArgs sPiv) (defBody sPiv) (defScope sPiv) .none kV21 dc21 pm21 an21 cd21 ct21), sl21⟩)
    (c21 : PySem.W.codeIn K cd21 "pivot" = true)
    (k21 : PySem.W.keepIn K (.ref f21) = true)
    (a22 : PySem.W.nsIn K mainGlobals "scaled_row" = some (some (.ref f22)))
    (l22 : K.lookup f22 = some ⟨oc22, od22, .func (PySem.W.fnOf "scaled_row" "scaled_row" (defArgs sScaled) (defBody sScaled) (defScope sScaled) .none kV22 dc22 pm22 an22 cd22 ct22), sl22⟩)
    (c22 : PySem.W.codeIn K cd22 "scaled_row" = true)
    (k22 : PySem.W.keepIn K (.ref f22) = true)
    (a23 : PySem.W.nsIn K mainGlobals "less" = some (some (.ref f23)))
    (l23 : K.lookup f23 = some ⟨oc23, od23, .func (PySem.W.fnOf "less" "less" (defArgs sLess) (defBody sLess) (defScope sLess) .none kV23 dc23 pm23 an23 cd23 ct23), sl23⟩)
    (c23 : PySem.W.codeIn K cd23 "less" = true)
    (k23 : PySem.W.keepIn K (.ref f23) = true)
    (a24 : PySem.W.nsIn K mainGlobals "cleared" = some (some (.ref f24)))
    (l24 : K.lookup f24 = some ⟨oc24, od24, .func (PySem.W.fnOf "cleared" "cleared" (defArgs sCleared) (defBody sCleared) (defScope sCleared) .none kV24 dc24 pm24 an24 cd24 ct24), sl24⟩)
    (c24 : PySem.W.codeIn K cd24 "cleared" = true)
    (k24 : PySem.W.keepIn K (.ref f24) = true)
    (a25 : PySem.W.nsIn K mainGlobals "keep" = some (some (.ref f25)))
    (l25 : K.lookup f25 = some ⟨oc25, od25, .func (PySem.W.fnOf "keep" "keep" (defArgs sKeep) (defBody sKeep) (defScope sKeep) .none kV25 dc25 pm25 an25 cd25 ct25), sl25⟩)
    (c25 : PySem.W.codeIn K cd25 "keep" = true)
    (k25 : PySem.W.keepIn K (.ref f25) = true)
    (a29 : PySem.W.nsIn K mainGlobals "is_table" = some (some (.ref f29)))
    (l29 : K.lookup f29 = some ⟨oc29, od29, .func (PySem.W.fnOf "is_table" "is_table" (defArgs sIsTab) (defBody sIsTab) (defScope sIsTab) .none kV29 dc29 pm29 an29 cd29 ct29), sl29⟩)
    (c29 : PySem.W.codeIn K cd29 "is_table" = true)
    (k29 : PySem.W.keepIn K (.ref f29) = true)
    (a30 : PySem.W.nsIn K mainGlobals "table_of" = some (some (.ref f30)))
    (l30 : K.lookup f30 = some ⟨oc30, od30, .func (PySem.W.fnOf "table_of" "table_of" (defArgs sTabOf) (defBody sTabOf) (defScope sTabOf) .none kV30 dc30 pm30 an30 cd30 ct30), sl30⟩)
    (c30 : PySem.W.codeIn K cd30 "table_of" = true)
    (k30 : PySem.W.keepIn K (.ref f30) = true)
    (a31 : PySem.W.nsIn K mainGlobals "corner" = some (some (.ref f31)))
    (l31 : K.lookup f31 = some ⟨oc31, od31, .func (PySem.W.fnOf "corner" "corner" (defArgs sCorner) (defBody sCorner) (defScope sCorner) .none kV31 dc31 pm31 an31 cd31 ct31), sl31⟩)
    (c31 : PySem.W.codeIn K cd31 "corner" = true)
    (k31 : PySem.W.keepIn K (.ref f31) = true)
    (a37 : PySem.W.nsIn K mainGlobals "is_arrow" = some (some (.ref f37)))
    (l37 : K.lookup f37 = some ⟨oc37, od37, .func (PySem.W.fnOf "is_arrow" "is_arrow" (defArgs sArrow) (defBody sArrow) (defScope sArrow) .none kV37 dc37 pm37 an37 cd37 ct37), sl37⟩)
    (c37 : PySem.W.codeIn K cd37 "is_arrow" = true)
    (k37 : PySem.W.keepIn K (.ref f37) = true)
    (a38 : PySem.W.nsIn K mainGlobals "line" = some (some (.ref f38)))
    (l38 : K.lookup f38 = some ⟨oc38, od38, .func (PySem.W.fnOf "line" "line" (defArgs sLine) (defBody sLine) (defScope sLine) .none kV38 dc38 pm38 an38 cd38 ct38), sl38⟩)
    (c38 : PySem.W.codeIn K cd38 "line" = true)
    (k38 : PySem.W.keepIn K (.ref f38) = true)
    (a42 : PySem.W.nsIn K mainGlobals "is_sizes" = some (some (.ref f42)))
    (l42 : K.lookup f42 = some ⟨oc42, od42, .func (PySem.W.fnOf "is_sizes" "is_sizes" (defArgs sSizes) (defBody sSizes) (defScope sSizes) .none kV42 dc42 pm42 an42 cd42 ct42), sl42⟩)
    (c42 : PySem.W.codeIn K cd42 "is_sizes" = true)
    (k42 : PySem.W.keepIn K (.ref f42) = true)
    (a43 : PySem.W.nsIn K mainGlobals "picture_of" = some (some (.ref f43)))
    (l43 : K.lookup f43 = some ⟨oc43, od43, .func (PySem.W.fnOf "picture_of" "picture_of" (defArgs sPicOf) (defBody sPicOf) (defScope sPicOf) .none kV43 dc43 pm43 an43 cd43 ct43), sl43⟩)
    (c43 : PySem.W.codeIn K cd43 "picture_of" = true)
    (k43 : PySem.W.keepIn K (.ref f43) = true)
    (a44 : PySem.W.nsIn K mainGlobals "laid_beside" = some (some (.ref f44)))
    (l44 : K.lookup f44 = some ⟨oc44, od44, .func (PySem.W.fnOf "laid_beside" "laid_beside" (defArgs sLaid) (defBody sLaid) (defScope sLaid) .none kV44 dc44 pm44 an44 cd44 ct44), sl44⟩)
    (c44 : PySem.W.codeIn K cd44 "laid_beside" = true)
    (k44 : PySem.W.keepIn K (.ref f44) = true)
    (a46 : PySem.W.nsIn K mainGlobals "bar_picture" = some (some (.ref f46)))
    (l46 : K.lookup f46 = some ⟨oc46, od46, .func (PySem.W.fnOf "bar_picture" "bar_picture" (defArgs sBarPic) (defBody sBarPic) (defScope sBarPic) .none kV46 dc46 pm46 an46 cd46 ct46), sl46⟩)
    (c46 : PySem.W.codeIn K cd46 "bar_picture" = true)
    (k46 : PySem.W.keepIn K (.ref f46) = true)
    (a54 : PySem.W.nsIn K mainGlobals "is_cell" = some (some (.ref f54)))
    (l54 : K.lookup f54 = some ⟨oc54, od54, .func (PySem.W.fnOf "is_cell" "is_cell" (defArgs sCell) (defBody sCell) (defScope sCell) .none kV54 dc54 pm54 an54 cd54 ct54), sl54⟩)
    (c54 : PySem.W.codeIn K cd54 "is_cell" = true)
    (k54 : PySem.W.keepIn K (.ref f54) = true)
    (a55 : PySem.W.nsIn K mainGlobals "faces" = some (some (.ref f55)))
    (l55 : K.lookup f55 = some ⟨oc55, od55, .func (PySem.W.fnOf "faces" "faces" (defArgs sFaces) (defBody sFaces) (defScope sFaces) .none kV55 dc55 pm55 an55 cd55 ct55), sl55⟩)
    (c55 : PySem.W.codeIn K cd55 "faces" = true)
    (k55 : PySem.W.keepIn K (.ref f55) = true)
    (a56 : PySem.W.nsIn K mainGlobals "rim_row" = some (some (.ref f56)))
    (l56 : K.lookup f56 = some ⟨oc56, od56, .func (PySem.W.fnOf "rim_row" "rim_row" (defArgs sRim) (defBody sRim) (defScope sRim) .none kV56 dc56 pm56 an56 cd56 ct56), sl56⟩)
    (c56 : PySem.W.codeIn K cd56 "rim_row" = true)
    (k56 : PySem.W.keepIn K (.ref f56) = true)
    (a57 : PySem.W.nsIn K mainGlobals "tower_bars" = some (some (.ref f57)))
    (l57 : K.lookup f57 = some ⟨oc57, od57, .func (PySem.W.fnOf "tower_bars" "tower_bars" (defArgs sBars) (defBody sBars) (defScope sBars) .none kV57 dc57 pm57 an57 cd57 ct57), sl57⟩)
    (c57 : PySem.W.codeIn K cd57 "tower_bars" = true)
    (k57 : PySem.W.keepIn K (.ref f57) = true)
    (a58 : PySem.W.nsIn K mainGlobals "bar_over" = some (some (.ref f58)))
    (l58 : K.lookup f58 = some ⟨oc58, od58, .func (PySem.W.fnOf "bar_over" "bar_over" (defArgs sOver) (defBody sOver) (defScope sOver) .none kV58 dc58 pm58 an58 cd58 ct58), sl58⟩)
    (c58 : PySem.W.codeIn K cd58 "bar_over" = true)
    (k58 : PySem.W.keepIn K (.ref f58) = true)
    (a59 : PySem.W.nsIn K mainGlobals "tower_picture" = some (some (.ref f59)))
    (l59 : K.lookup f59 = some ⟨oc59, od59, .func (PySem.W.fnOf "tower_picture" "tower_picture" (defArgs sTP) (defBody sTP) (defScope sTP) .none kV59 dc59 pm59 an59 cd59 ct59), sl59⟩)
    (c59 : PySem.W.codeIn K cd59 "tower_picture" = true)
    (k59 : PySem.W.keepIn K (.ref f59) = true)
    (a60 : PySem.W.nsIn K mainGlobals "exchanged" = some (some (.ref f60)))
    (l60 : K.lookup f60 = some ⟨oc60, od60, .func (PySem.W.fnOf "exchanged" "exchanged" (defArgs sExch) (defBody sExch) (defScope sExch) .none kV60 dc60 pm60 an60 cd60 ct60), sl60⟩)
    (c60 : PySem.W.codeIn K cd60 "exchanged" = true)
    (k60 : PySem.W.keepIn K (.ref f60) = true)
    (a62 : PySem.W.nsIn K mainGlobals "_law_bag" = some (some (.ref f62)))
    (l62 : K.lookup f62 = some ⟨oc62, od62, .func (PySem.W.fnOf "_law_bag" "_law_bag" (defArgs sBag) (defBody sBag) (defScope sBag) .none kV62 dc62 pm62 an62 cd62 ct62), sl62⟩)
    (c62 : PySem.W.codeIn K cd62 "_law_bag" = true)
    (k62 : PySem.W.keepIn K (.ref f62) = true)
    (a63 : PySem.W.nsIn K mainGlobals "_law_pick" = some (some (.ref f63)))
    (l63 : K.lookup f63 = some ⟨oc63, od63, .func (PySem.W.fnOf "_law_pick" "_law_pick" (defArgs sPick) (defBody sPick) (defScope sPick) .none kV63 dc63 pm63 an63 cd63 ct63), sl63⟩)
    (c63 : PySem.W.codeIn K cd63 "_law_pick" = true)
    (k63 : PySem.W.keepIn K (.ref f63) = true)
    (a64 : PySem.W.nsIn K mainGlobals "_law_some" = some (some (.ref f64)))
    (l64 : K.lookup f64 = some ⟨oc64, od64, .func (PySem.W.fnOf "_law_some" "_law_some" (defArgs sSome) (defBody sSome) (defScope sSome) .none kV64 dc64 pm64 an64 cd64 ct64), sl64⟩)
    (c64 : PySem.W.codeIn K cd64 "_law_some" = true)
    (k64 : PySem.W.keepIn K (.ref f64) = true)
    (a65 : PySem.W.nsIn K mainGlobals "_law_faces" = some (some (.ref f65)))
    (l65 : K.lookup f65 = some ⟨oc65, od65, .func (PySem.W.fnOf "_law_faces" "_law_faces" (defArgs sLFaces) (defBody sLFaces) (defScope sLFaces) .none kV65 dc65 pm65 an65 cd65 ct65), sl65⟩)
    (c65 : PySem.W.codeIn K cd65 "_law_faces" = true)
    (k65 : PySem.W.keepIn K (.ref f65) = true)
    (a66 : PySem.W.nsIn K mainGlobals "_law_grown" = some (some (.ref f66)))
    (l66 : K.lookup f66 = some ⟨oc66, od66, .func (PySem.W.fnOf "_law_grown" "_law_grown" (defArgs sGrown) (defBody sGrown) (defScope sGrown) .none kV66 dc66 pm66 an66 cd66 ct66), sl66⟩)
    (c66 : PySem.W.codeIn K cd66 "_law_grown" = true)
    (k66 : PySem.W.keepIn K (.ref f66) = true)
    (a67 : PySem.W.nsIn K mainGlobals "_law_deep" = some (some (.ref f67)))
    (l67 : K.lookup f67 = some ⟨oc67, od67, .func (PySem.W.fnOf "_law_deep" "_law_deep" (defArgs V44.G.sDeep) (defBody V44.G.sDeep) (defScope V44.G.sDeep) .none kV67 dc67 pm67 an67 cd67 ct67), sl67⟩)
    (c67 : PySem.W.codeIn K cd67 "_law_deep" = true)
    (k67 : PySem.W.keepIn K (.ref f67) = true)
    (a68 : PySem.W.nsIn K mainGlobals "_law_is_integer" = some (some (.ref f68)))
    (l68 : K.lookup f68 = some ⟨oc68, od68, .func (PySem.W.fnOf "_law_is_integer" "_law_is_integer" (defArgs sLInt) (defBody sLInt) (defScope sLInt) .none kV68 dc68 pm68 an68 cd68 ct68), sl68⟩)
    (c68 : PySem.W.codeIn K cd68 "_law_is_integer" = true)
    (k68 : PySem.W.keepIn K (.ref f68) = true)
    (a69 : PySem.W.nsIn K mainGlobals "_law_is_within" = some (some (.ref f69)))
    (l69 : K.lookup f69 = some ⟨oc69, od69, .func (PySem.W.fnOf "_law_is_within" "_law_is_within" (defArgs sWithin) (defBody sWithin) (defScope sWithin) .none kV69 dc69 pm69 an69 cd69 ct69), sl69⟩)
    (c69 : PySem.W.codeIn K cd69 "_law_is_within" = true)
    (k69 : PySem.W.keepIn K (.ref f69) = true)
    (a70 : PySem.W.nsIn K mainGlobals "_law_is_prime" = some (some (.ref f70)))
    (l70 : K.lookup f70 = some ⟨oc70, od70, .func (PySem.W.fnOf "_law_is_prime" "_law_is_prime" (defArgs sLPrime) (defBody sLPrime) (defScope sLPrime) .none kV70 dc70 pm70 an70 cd70 ct70), sl70⟩)
    (c70 : PySem.W.codeIn K cd70 "_law_is_prime" = true)
    (k70 : PySem.W.keepIn K (.ref f70) = true)
    (a71 : PySem.W.nsIn K mainGlobals "_law_are_stops" = some (some (.ref f71)))
    (l71 : K.lookup f71 = some ⟨oc71, od71, .func (PySem.W.fnOf "_law_are_stops" "_law_are_stops" (defArgs sAre) (defBody sAre) (defScope sAre) .none kV71 dc71 pm71 an71 cd71 ct71), sl71⟩)
    (c71 : PySem.W.codeIn K cd71 "_law_are_stops" = true)
    (k71 : PySem.W.keepIn K (.ref f71) = true)
    (a72 : PySem.W.nsIn K mainGlobals "_law_word" = some (some (.ref f72)))
    (l72 : K.lookup f72 = some ⟨oc72, od72, .func (PySem.W.fnOf "_law_word" "_law_word" (defArgs sWord) (defBody sWord) (defScope sWord) .none kV72 dc72 pm72 an72 cd72 ct72), sl72⟩)
    (c72 : PySem.W.codeIn K cd72 "_law_word" = true)
    (k72 : PySem.W.keepIn K (.ref f72) = true)
    (a73 : PySem.W.nsIn K mainGlobals "_law_first" = some (some (.ref f73)))
    (l73 : K.lookup f73 = some ⟨oc73, od73, .func (PySem.W.fnOf "_law_first" "_law_first" (defArgs sFirst) (defBody sFirst) (defScope sFirst) .none kV73 dc73 pm73 an73 cd73 ct73), sl73⟩)
    (c73 : PySem.W.codeIn K cd73 "_law_first" = true)
    (k73 : PySem.W.keepIn K (.ref f73) = true)
    (a74 : PySem.W.nsIn K mainGlobals "_law_stops" = some (some (.ref f74)))
    (l74 : K.lookup f74 = some ⟨oc74, od74, .func (PySem.W.fnOf "_law_stops" "_law_stops" (defArgs sStops) (defBody sStops) (defScope sStops) .none kV74 dc74 pm74 an74 cd74 ct74), sl74⟩)
    (c74 : PySem.W.codeIn K cd74 "_law_stops" = true)
    (k74 : PySem.W.keepIn K (.ref f74) = true)
    (a75 : PySem.W.nsIn K mainGlobals "law" = some (some (.ref f75)))
    (l75 : K.lookup f75 = some ⟨oc75, od75, .func (PySem.W.fnOf "law" "law" (defArgs sLaw) (defBody sLaw) (defScope sLaw) .none kV75 dc75 pm75 an75 (.ref cL) ct75), sl75⟩)
    (c75 : PySem.W.codeIn K (.ref cL) "law" = true)
    (k75 : PySem.W.keepIn K (.ref f75) = true)
    (aT : PySem.W.findIn K (.ref CT) "__init__" = some (some (.ref fT)))
    (iT : PySem.W.isFn K (.ref fT) = true)
    (lT : K.lookup fT = some ⟨ocT, odT, .func (PySem.W.fnOf "__init__" "Tower.__init__" (defArgs sTowI) (defBody sTowI) (defScope sTowI) .none kVT dcT pmT anT cdT ctT), slT⟩)
    (cT : PySem.W.codeIn K cdT "Tower.__init__" = true)
    (kT : PySem.W.keepIn K (.ref fT) = true)
    (tT : PySem.W.typeIn K (.ref fT) = some (.type "function"))
    (aB : PySem.W.findIn K (.ref CB) "__init__" = some (some (.ref fB)))
    (iB : PySem.W.isFn K (.ref fB) = true)
    (lB : K.lookup fB = some ⟨ocB, odB, .func (PySem.W.fnOf "__init__" "Table.__init__" (defArgs sTabI) (defBody sTabI) (defScope sTabI) .none kVB dcB pmB anB cdB ctB), slB⟩)
    (cB : PySem.W.codeIn K cdB "Table.__init__" = true)
    (kB : PySem.W.keepIn K (.ref fB) = true)
    (tB : PySem.W.typeIn K (.ref fB) = some (.type "function"))
    (aW : PySem.W.findIn K (.ref CW) "__init__" = some (some (.ref fW)))
    (iW : PySem.W.isFn K (.ref fW) = true)
    (lW : K.lookup fW = some ⟨ocW, odW, .func (PySem.W.fnOf "__init__" "Web.__init__" (defArgs sWebI) (defBody sWebI) (defScope sWebI) .none kVW dcW pmW anW cdW ctW), slW⟩)
    (cW : PySem.W.codeIn K cdW "Web.__init__" = true)
    (kW : PySem.W.keepIn K (.ref fW) = true)
    (tW : PySem.W.typeIn K (.ref fW) = some (.type "function"))
    (aP : PySem.W.findIn K (.ref CP) "__init__" = some (some (.ref fP)))
    (iP : PySem.W.isFn K (.ref fP) = true)
    (lP : K.lookup fP = some ⟨ocP, odP, .func (PySem.W.fnOf "__init__" "Picture.__init__" (defArgs sPicI) (defBody sPicI) (defScope sPicI) .none kVP dcP pmP anP cdP ctP), slP⟩)
    (cP : PySem.W.codeIn K cdP "Picture.__init__" = true)
    (kP : PySem.W.keepIn K (.ref fP) = true)
    (tP : PySem.W.typeIn K (.ref fP) = some (.type "function"))
    (aI : PySem.W.findIn K (.ref NN) "__init__" = some (some (.ref fI)))
    (iI : PySem.W.isFn K (.ref fI) = true)
    (lI : K.lookup fI = some ⟨ocI, odI, .func (PySem.W.fnOf "__init__" "WebError.__init__" (defArgs sWE) (defBody sWE) (defScope sWE) .none kVI dcI pmI anI cdI ctI), slI⟩)
    (cI : PySem.W.codeIn K cdI "WebError.__init__" = true)
    (kI : PySem.W.keepIn K (.ref fI) = true)
    (tI : PySem.W.typeIn K (.ref fI) = some (.type "function"))
    (aINP : PySem.W.findIn K (.ref NP) "__init__" = some (some (.ref fI)))
    (aINS : PySem.W.findIn K (.ref NS) "__init__" = some (some (.ref fI)))
    (aINX : PySem.W.findIn K (.ref NX) "__init__" = some (some (.ref fI)))
    (hn : PySem.W.specialIn K (.builtin "object.__class__") "__get__" = some (some (.builtin "getset_descriptor.__get__")))
    (ht : PySem.W.takesIn K (.builtin "object.__class__") = some true)
    (pgCT : PySem.W.plainGet K CT Str.empty = true)
    (hdCT : PySem.W.hasDictIn K CT = true)
    (poCT : PySem.W.plainOver K CT = true)
    (saCT : PySem.W.findIn K (.ref CT) "__setattr__" = some (some (.builtin "object.__setattr__")))
    (mkCT : PySem.W.makesIn K CT = true)
    (kcCT : PySem.W.keepIn K (.ref CT) = true)
    (haCT : PySem.W.findIn K (.ref CT) "__class__" = some (some (.builtin "object.__class__")))
    (hmCT : PySem.W.mroIn K CT (.type "object") = some true)
    (icCT : PySem.W.isClsIn K CT = true)
    (tcCT : PySem.W.typeIn K (.ref CT) = some (.type "type"))
    (scCT : PySem.W.subIn K (.ref CT) (.ref CT) = some true)
    (pgCB : PySem.W.plainGet K CB Str.empty = true)
    (hdCB : PySem.W.hasDictIn K CB = true)
    (poCB : PySem.W.plainOver K CB = true)
    (saCB : PySem.W.findIn K (.ref CB) "__setattr__" = some (some (.builtin "object.__setattr__")))
    (mkCB : PySem.W.makesIn K CB = true)
    (kcCB : PySem.W.keepIn K (.ref CB) = true)
    (haCB : PySem.W.findIn K (.ref CB) "__class__" = some (some (.builtin "object.__class__")))
    (hmCB : PySem.W.mroIn K CB (.type "object") = some true)
    (icCB : PySem.W.isClsIn K CB = true)
    (tcCB : PySem.W.typeIn K (.ref CB) = some (.type "type"))
    (scCB : PySem.W.subIn K (.ref CB) (.ref CB) = some true)
    (pgCW : PySem.W.plainGet K CW Str.empty = true)
    (hdCW : PySem.W.hasDictIn K CW = true)
    (poCW : PySem.W.plainOver K CW = true)
    (saCW : PySem.W.findIn K (.ref CW) "__setattr__" = some (some (.builtin "object.__setattr__")))
    (mkCW : PySem.W.makesIn K CW = true)
    (kcCW : PySem.W.keepIn K (.ref CW) = true)
    (haCW : PySem.W.findIn K (.ref CW) "__class__" = some (some (.builtin "object.__class__")))
    (hmCW : PySem.W.mroIn K CW (.type "object") = some true)
    (icCW : PySem.W.isClsIn K CW = true)
    (tcCW : PySem.W.typeIn K (.ref CW) = some (.type "type"))
    (scCW : PySem.W.subIn K (.ref CW) (.ref CW) = some true)
    (pgCP : PySem.W.plainGet K CP Str.empty = true)
    (hdCP : PySem.W.hasDictIn K CP = true)
    (poCP : PySem.W.plainOver K CP = true)
    (saCP : PySem.W.findIn K (.ref CP) "__setattr__" = some (some (.builtin "object.__setattr__")))
    (mkCP : PySem.W.makesIn K CP = true)
    (kcCP : PySem.W.keepIn K (.ref CP) = true)
    (haCP : PySem.W.findIn K (.ref CP) "__class__" = some (some (.builtin "object.__class__")))
    (hmCP : PySem.W.mroIn K CP (.type "object") = some true)
    (icCP : PySem.W.isClsIn K CP = true)
    (tcCP : PySem.W.typeIn K (.ref CP) = some (.type "type"))
    (scCP : PySem.W.subIn K (.ref CP) (.ref CP) = some true)
    (nCTcells : PySem.W.findIn K (.ref CT) "cells" = some none)
    (nCBprime : PySem.W.findIn K (.ref CB) "prime" = some none)
    (nCBwide : PySem.W.findIn K (.ref CB) "wide" = some none)
    (nCBrows : PySem.W.findIn K (.ref CB) "rows" = some none)
    (nCBhigh : PySem.W.findIn K (.ref CB) "high" = some none)
    (nCWmany : PySem.W.findIn K (.ref CW) "many" = some none)
    (nCWarrows : PySem.W.findIn K (.ref CW) "arrows" = some none)
    (nCPweb : PySem.W.findIn K (.ref CP) "web" = some none)
    (nCPprime : PySem.W.findIn K (.ref CP) "prime" = some none)
    (nCPsizes : PySem.W.findIn K (.ref CP) "sizes" = some none)
    (nCPtables : PySem.W.findIn K (.ref CP) "tables" = some none)
    (vMOST : PySem.W.nsIn K mainGlobals "MOST" = some (some (.int 12 tMOST)))
    (vMOST_PLACES : PySem.W.nsIn K mainGlobals "MOST_PLACES" = some (some (.int 8 tMOST_PLACES)))
    (vMOST_ARROWS : PySem.W.nsIn K mainGlobals "MOST_ARROWS" = some (some (.int 12 tMOST_ARROWS)))
    (vMOST_SIGNS : PySem.W.nsIn K mainGlobals "MOST_SIGNS" = some (some (.int 7 tMOST_SIGNS)))
    (vMOST_SIZE : PySem.W.nsIn K mainGlobals "MOST_SIZE" = some (some (.int 6 tMOST_SIZE)))
    (vMOST_CELLS : PySem.W.nsIn K mainGlobals "MOST_CELLS" = some (some (.int 40 tMOST_CELLS)))
    (vMOST_IN_CELL : PySem.W.nsIn K mainGlobals "MOST_IN_CELL" = some (some (.int 4 tMOST_IN_CELL)))
    (vMOST_NAME : PySem.W.nsIn K mainGlobals "MOST_NAME" = some (some (.int 29 tMOST_NAME)))
    (vMOST_DEEP : PySem.W.nsIn K mainGlobals "MOST_DEEP" = some (some (.int 3 tMOST_DEEP)))
    (vMOST_STOPS : PySem.W.nsIn K mainGlobals "MOST_STOPS" = some (some (.int 8 tMOST_STOPS)))
    (xLNP : K.lookup NP = some (excClassObj nmNP qNP NP NNP bsNP bmNP true snNP subNP abNP colNP ddNP m0NP m1NP m2NP m3NP m5NP "ValueError.__new__"))
    (xbNP : PySem.HandSPX.refsVE bmNP = true)
    (seNP : PySem.W.findIn K (.ref NP) "__setattr__" = some (some (.builtin "object.__setattr__")))
    (keNP : PySem.W.keepIn K (.ref NP) = true)
    (heNP : PySem.W.hasDictIn K NP = true)
    (gaNP : PySem.W.findIn K (.ref NP) "__getattribute__" = some (some (.builtin "BaseException.__getattribute__")))
    (ggNP : PySem.W.findIn K (.ref NP) "__getattr__" = some none)
    (hxNP : PySem.W.findIn K (.ref NP) "__class__" = some (some (.builtin "object.__class__")))
    (myNP : PySem.W.mroIn K NP (.type "object") = some true)
    (exNP : PySem.W.subIn K (.ref NP) (.type "BaseException") = some true)
    (ieNP : PySem.W.isClsIn K NP = true)
    (teNP : PySem.W.typeIn K (.ref NP) = some (.type "type"))
    (ssNP : PySem.W.subIn K (.ref NP) (.ref NP) = some true)
    (xLNN : K.lookup NN = some (excClassObj nmNN qNN NN NNN bsNN bmNN true snNN subNN abNN colNN ddNN m0NN m1NN m2NN m3NN m5NN "ValueError.__new__"))
    (xbNN : PySem.HandSPX.refsVE bmNN = true)
    (seNN : PySem.W.findIn K (.ref NN) "__setattr__" = some (some (.builtin "object.__setattr__")))
    (keNN : PySem.W.keepIn K (.ref NN) = true)
    (heNN : PySem.W.hasDictIn K NN = true)
    (gaNN : PySem.W.findIn K (.ref NN) "__getattribute__" = some (some (.builtin "BaseException.__getattribute__")))
    (ggNN : PySem.W.findIn K (.ref NN) "__getattr__" = some none)
    (hxNN : PySem.W.findIn K (.ref NN) "__class__" = some (some (.builtin "object.__class__")))
    (myNN : PySem.W.mroIn K NN (.type "object") = some true)
    (exNN : PySem.W.subIn K (.ref NN) (.type "BaseException") = some true)
    (ieNN : PySem.W.isClsIn K NN = true)
    (teNN : PySem.W.typeIn K (.ref NN) = some (.type "type"))
    (ssNN : PySem.W.subIn K (.ref NN) (.ref NN) = some true)
    (xLNS : K.lookup NS = some (excClassObj nmNS qNS NS NNS bsNS bmNS true snNS subNS abNS colNS ddNS m0NS m1NS m2NS m3NS m5NS "ValueError.__new__"))
    (xbNS : PySem.HandSPX.refsVE bmNS = true)
    (seNS : PySem.W.findIn K (.ref NS) "__setattr__" = some (some (.builtin "object.__setattr__")))
    (keNS : PySem.W.keepIn K (.ref NS) = true)
    (heNS : PySem.W.hasDictIn K NS = true)
    (gaNS : PySem.W.findIn K (.ref NS) "__getattribute__" = some (some (.builtin "BaseException.__getattribute__")))
    (ggNS : PySem.W.findIn K (.ref NS) "__getattr__" = some none)
    (hxNS : PySem.W.findIn K (.ref NS) "__class__" = some (some (.builtin "object.__class__")))
    (myNS : PySem.W.mroIn K NS (.type "object") = some true)
    (exNS : PySem.W.subIn K (.ref NS) (.type "BaseException") = some true)
    (ieNS : PySem.W.isClsIn K NS = true)
    (teNS : PySem.W.typeIn K (.ref NS) = some (.type "type"))
    (ssNS : PySem.W.subIn K (.ref NS) (.ref NS) = some true)
    (xLNX : K.lookup NX = some (excClassObj nmNX qNX NX NNX bsNX bmNX true snNX subNX abNX colNX ddNX m0NX m1NX m2NX m3NX m5NX "ValueError.__new__"))
    (xbNX : PySem.HandSPX.refsVE bmNX = true)
    (seNX : PySem.W.findIn K (.ref NX) "__setattr__" = some (some (.builtin "object.__setattr__")))
    (keNX : PySem.W.keepIn K (.ref NX) = true)
    (heNX : PySem.W.hasDictIn K NX = true)
    (gaNX : PySem.W.findIn K (.ref NX) "__getattribute__" = some (some (.builtin "BaseException.__getattribute__")))
    (ggNX : PySem.W.findIn K (.ref NX) "__getattr__" = some none)
    (hxNX : PySem.W.findIn K (.ref NX) "__class__" = some (some (.builtin "object.__class__")))
    (myNX : PySem.W.mroIn K NX (.type "object") = some true)
    (exNX : PySem.W.subIn K (.ref NX) (.type "BaseException") = some true)
    (ieNX : PySem.W.isClsIn K NX = true)
    (teNX : PySem.W.typeIn K (.ref NX) = some (.type "type"))
    (ssNX : PySem.W.subIn K (.ref NX) (.ref NX) = some true)
    (exCE : PySem.W.subIn K (.ref CE) (.type "BaseException") = some true)
    (ieCE : PySem.W.isClsIn K CE = true)
    (teCE : PySem.W.typeIn K (.ref CE) = some (.type "type"))
    (ssCE : PySem.W.subIn K (.ref CE) (.ref CE) = some true)
    (sNP_NN : PySem.W.subIn K (.ref NP) (.ref NN) = some false)
    (sNP_NS : PySem.W.subIn K (.ref NP) (.ref NS) = some false)
    (sNP_NX : PySem.W.subIn K (.ref NP) (.ref NX) = some false)
    (sNP_CE : PySem.W.subIn K (.ref NP) (.ref CE) = some true)
    (sNN_NP : PySem.W.subIn K (.ref NN) (.ref NP) = some false)
    (sNN_NS : PySem.W.subIn K (.ref NN) (.ref NS) = some false)
    (sNN_NX : PySem.W.subIn K (.ref NN) (.ref NX) = some false)
    (sNN_CE : PySem.W.subIn K (.ref NN) (.ref CE) = some true)
    (sNS_NP : PySem.W.subIn K (.ref NS) (.ref NP) = some false)
    (sNS_NN : PySem.W.subIn K (.ref NS) (.ref NN) = some false)
    (sNS_NX : PySem.W.subIn K (.ref NS) (.ref NX) = some false)
    (sNS_CE : PySem.W.subIn K (.ref NS) (.ref CE) = some true)
    (sNX_NP : PySem.W.subIn K (.ref NX) (.ref NP) = some false)
    (sNX_NN : PySem.W.subIn K (.ref NX) (.ref NN) = some false)
    (sNX_NS : PySem.W.subIn K (.ref NX) (.ref NS) = some false)
    (sNX_CE : PySem.W.subIn K (.ref NX) (.ref CE) = some true)
    (vPR : PySem.W.nsIn K mainGlobals "PRIMES" = some (some (.ref aPR)))
    (lPR : K.lookup aPR = some ⟨.type "tuple", odPR, .seq itsPR nPR, slPR⟩)
    (zPR : itsPR.size ≤ sizeLine)
    (rPR : Vals [.int 2, .int 3, .int 5, .int 7, .int 11, .int 13] itsPR.toList)
    (zlen : PySem.W.nsIn K mainGlobals "len" = some none)
    (zint : PySem.W.nsIn K mainGlobals "int" = some none)
    (zbool : PySem.W.nsIn K mainGlobals "bool" = some none)
    (zisinstance : PySem.W.nsIn K mainGlobals "isinstance" = some none)
    (ztuple : PySem.W.nsIn K mainGlobals "tuple" = some none)
    (zall : PySem.W.nsIn K mainGlobals "all" = some none)
    (zenumerate : PySem.W.nsIn K mainGlobals "enumerate" = some none)
    (zlist : PySem.W.nsIn K mainGlobals "list" = some none)
    (zrange : PySem.W.nsIn K mainGlobals "range" = some none)
    (zmin : PySem.W.nsIn K mainGlobals "min" = some none)
    (zmax : PySem.W.nsIn K mainGlobals "max" = some none)
    (zsorted : PySem.W.nsIn K mainGlobals "sorted" = some none)
    (zset : PySem.W.nsIn K mainGlobals "set" = some none)
    (zstr : PySem.W.nsIn K mainGlobals "str" = some none)
    (zabs : PySem.W.nsIn K mainGlobals "abs" = some none)
    (zValueError : PySem.W.nsIn K mainGlobals "ValueError" = some none)
    (zzip : PySem.W.nsIn K mainGlobals "zip" = some none)
    (zsum : PySem.W.nsIn K mainGlobals "sum" = some none)
    (hP : h.get? PL = some { cls := .none, data := .fields #[] })
    (nP : K.lookup PL = none)
    (hC : PySem.W.codeHdIn K cL PL = true) :
    LawAtS l w K CX0 13 63 "_law_script" mg fa h := by
  have e := hfa.symm.trans (PySem.W.mg_of X G a75)
  cases e
  have F2 := fun_mk (st := sInteger) l2 c2 k2
  have b2 := F2.binds (ps := ["thing"]) fun _ _ _ _ _ _ us hl => match us, hl with | [_], _ => rfl
  have F3 := fun_mk (st := sNumber) l3 c3 k3
  have b3 := F3.binds (ps := ["most", "thing"]) fun _ _ _ _ _ _ us hl => match us, hl with | [_, _], _ => rfl
  have F4 := fun_mk (st := sPrime) l4 c4 k4
  have b4 := F4.binds (ps := ["thing"]) fun _ _ _ _ _ _ us hl => match us, hl with | [_], _ => rfl
  have F6 := fun_mk (st := sAsc) l6 c6 k6
  have b6 := F6.binds (ps := ["most", "thing"]) fun _ _ _ _ _ _ us hl => match us, hl with | [_, _], _ => rfl
  have F20 := fun_mk (st := sInv) l20 c20 k20
  have b20 := F20.binds (ps := ["prime", "worth"]) fun _ _ _ _ _ _ us hl => match us, hl with | [_, _], _ => rfl
  have F21 := fun_mk (st := sPiv) l21 c21 k21
  have b21 := F21.binds (ps := ["row"]) fun _ _ _ _ _ _ us hl => match us, hl with | [_], _ => rfl
  have F22 := fun_mk (st := sScaled) l22 c22 k22
  have b22 := F22.binds (ps := ["prime", "row", "number"]) fun _ _ _ _ _ _ us hl => match us, hl with | [_, _, _], _ => rfl
  have F23 := fun_mk (st := sLess) l23 c23 k23
  have b23 := F23.binds (ps := ["prime", "row", "number", "other"]) fun _ _ _ _ _ _ us hl => match us, hl with | [_, _, _, _], _ => rfl
  have F24 := fun_mk (st := sCleared) l24 c24 k24
  have b24 := F24.binds (ps := ["prime", "row", "kept"]) fun _ _ _ _ _ _ us hl => match us, hl with | [_, _, _], _ => rfl
  have F25 := fun_mk (st := sKeep) l25 c25 k25
  have b25 := F25.binds (ps := ["prime", "row", "kept"]) fun _ _ _ _ _ _ us hl => match us, hl with | [_, _, _], _ => rfl
  have F29 := fun_mk (st := sIsTab) l29 c29 k29
  have b29 := F29.binds (ps := ["prime", "high", "wide", "thing"]) fun _ _ _ _ _ _ us hl => match us, hl with | [_, _, _, _], _ => rfl
  have F30 := fun_mk (st := sTabOf) l30 c30 k30
  have b30 := F30.binds (ps := ["prime", "wide", "rows"]) fun _ _ _ _ _ _ us hl => match us, hl with | [_, _, _], _ => rfl
  have F31 := fun_mk (st := sCorner) l31 c31 k31
  have b31 := F31.binds (ps := ["one", "other"]) fun _ _ _ _ _ _ us hl => match us, hl with | [_, _], _ => rfl
  have F37 := fun_mk (st := sArrow) l37 c37 k37
  have b37 := F37.binds (ps := ["many", "thing"]) fun _ _ _ _ _ _ us hl => match us, hl with | [_, _], _ => rfl
  have F38 := fun_mk (st := sLine) l38 c38 k38
  have b38 := F38.binds (ps := ["word"]) fun _ _ _ _ _ _ us hl => match us, hl with | [_], _ => rfl
  have F42 := fun_mk (st := sSizes) l42 c42 k42
  have b42 := F42.binds (ps := ["web", "thing"]) fun _ _ _ _ _ _ us hl => match us, hl with | [_, _], _ => rfl
  have F43 := fun_mk (st := sPicOf) l43 c43 k43
  have b43 := F43.binds (ps := ["web", "prime", "sizes", "tables"]) fun _ _ _ _ _ _ us hl => match us, hl with | [_, _, _, _], _ => rfl
  have F44 := fun_mk (st := sLaid) l44 c44 k44
  have b44 := F44.binds (ps := ["web", "prime", "pictures"]) fun _ _ _ _ _ _ us hl => match us, hl with | [_, _, _], _ => rfl
  have F46 := fun_mk (st := sBarPic) l46 c46 k46
  have b46 := F46.binds (ps := ["web", "prime", "begin", "end"]) fun _ _ _ _ _ _ us hl => match us, hl with | [_, _, _, _], _ => rfl
  have F54 := fun_mk (st := sCell) l54 c54 k54
  have b54 := F54.binds (ps := ["thing"]) fun _ _ _ _ _ _ us hl => match us, hl with | [_], _ => rfl
  have F55 := fun_mk (st := sFaces) l55 c55 k55
  have b55 := F55.binds (ps := ["cell"]) fun _ _ _ _ _ _ us hl => match us, hl with | [_], _ => rfl
  have F56 := fun_mk (st := sRim) l56 c56 k56
  have b56 := F56.binds (ps := ["cells", "prime", "cell"]) fun _ _ _ _ _ _ us hl => match us, hl with | [_, _, _], _ => rfl
  have F57 := fun_mk (st := sBars) l57 c57 k57
  have b57 := F57.binds (ps := ["tower", "prime", "deep"]) fun _ _ _ _ _ _ us hl => match us, hl with | [_, _, _], _ => rfl
  have F58 := fun_mk (st := sOver) l58 c58 k58
  have b58 := F58.binds (ps := ["web", "prime", "stops", "born", "gone"]) fun _ _ _ _ _ _ us hl => match us, hl with | [_, _, _, _, _], _ => rfl
  have F59 := fun_mk (st := sTP) l59 c59 k59
  have b59 := F59.binds (ps := ["tower", "prime", "deep", "stops"]) fun _ _ _ _ _ _ us hl => match us, hl with | [_, _, _, _], _ => rfl
  have F60 := fun_mk (st := sExch) l60 c60 k60
  have b60 := F60.binds (ps := ["tower", "at"]) fun _ _ _ _ _ _ us hl => match us, hl with | [_, _], _ => rfl
  have F62 := fun_mk (st := sBag) l62 c62 k62
  have b62 := F62.binds (ps := ["_law_script"]) fun _ _ _ _ _ _ us hl => match us, hl with | [_], _ => rfl
  have F63 := fun_mk (st := sPick) l63 c63 k63
  have b63 := F63.binds (ps := ["_law_bag_here", "_law_many"]) fun _ _ _ _ _ _ us hl => match us, hl with | [_, _], _ => rfl
  have F64 := fun_mk (st := sSome) l64 c64 k64
  have b64 := F64.binds (ps := ["_law_bag_here", "_law_things"]) fun _ _ _ _ _ _ us hl => match us, hl with | [_, _], _ => rfl
  have F65 := fun_mk (st := sLFaces) l65 c65 k65
  have b65 := F65.binds (ps := ["_law_cell"]) fun _ _ _ _ _ _ us hl => match us, hl with | [_], _ => rfl
  have F66 := fun_mk (st := sGrown) l66 c66 k66
  have b66 := F66.binds (ps := ["_law_bag_here", "_law_many"]) fun _ _ _ _ _ _ us hl => match us, hl with | [_, _], _ => rfl
  have F67 := fun_mk (st := V44.G.sDeep) l67 c67 k67
  have b67 := F67.binds (ps := ["_law_bag_here"]) fun _ _ _ _ _ _ us hl => match us, hl with | [_], _ => rfl
  have F68 := fun_mk (st := sLInt) l68 c68 k68
  have b68 := F68.binds (ps := ["_law_thing"]) fun _ _ _ _ _ _ us hl => match us, hl with | [_], _ => rfl
  have F69 := fun_mk (st := sWithin) l69 c69 k69
  have b69 := F69.binds (ps := ["_law_thing", "_law_least", "_law_most"]) fun _ _ _ _ _ _ us hl => match us, hl with | [_, _, _], _ => rfl
  have F70 := fun_mk (st := sLPrime) l70 c70 k70
  have b70 := F70.binds (ps := ["_law_thing"]) fun _ _ _ _ _ _ us hl => match us, hl with | [_], _ => rfl
  have F71 := fun_mk (st := sAre) l71 c71 k71
  have b71 := F71.binds (ps := ["_law_thing", "_law_many"]) fun _ _ _ _ _ _ us hl => match us, hl with | [_, _], _ => rfl
  have F72 := fun_mk (st := sWord) l72 c72 k72
  have b72 := F72.binds (ps := ["_law_asked"]) fun _ _ _ _ _ _ us hl => match us, hl with | [_], _ => rfl
  have F73 := fun_mk (st := sFirst) l73 c73 k73
  have b73 := F73.binds (ps := ["_law_pairs"]) fun _ _ _ _ _ _ us hl => match us, hl with | [_], _ => rfl
  have F74 := fun_mk (st := sStops) l74 c74 k74
  have b74 := F74.binds (ps := ["_law_bag_here", "_law_many"]) fun _ _ _ _ _ _ us hl => match us, hl with | [_, _], _ => rfl
  have F75 := fun_mk (st := sLaw) l75 c75 k75
  have b75 := F75.binds (ps := ["_law_script"]) fun _ _ _ _ _ _ us hl => match us, hl with | [_], _ => rfl
  have FT := fun_mk (st := sTowI) lT cT kT
  have bT := FT.binds (ps := ["self", "cells"]) fun _ _ _ _ _ _ us hl => match us, hl with | [_, _], _ => rfl
  have FB := fun_mk (st := sTabI) lB cB kB
  have bB := FB.binds (ps := ["self", "prime", "wide", "rows"]) fun _ _ _ _ _ _ us hl => match us, hl with | [_, _, _, _], _ => rfl
  have FW := fun_mk (st := sWebI) lW cW kW
  have bW := FW.binds (ps := ["self", "many", "arrows"]) fun _ _ _ _ _ _ us hl => match us, hl with | [_, _, _], _ => rfl
  have FP := fun_mk (st := sPicI) lP cP kP
  have bP := FP.binds (ps := ["self", "web", "prime", "sizes", "tables"]) fun _ _ _ _ _ _ us hl => match us, hl with | [_, _, _, _, _], _ => rfl
  have FI := fun_mk (st := sWE) lI cI kI
  have bI := FI.binds (ps := ["self"]) fun _ _ _ _ _ _ us hl => match us, hl with | [_], _ => rfl
  have nn : ∀ {x : Str}, PySem.W.nsIn K mainGlobals x = some none → mg x = none := fun z => PySem.W.mg_none_of X G z
  have T : Gb mg := ⟨nn zlen, nn zint, nn zbool, nn zisinstance, nn ztuple, nn zall, nn zenumerate, nn zlist, nn zrange, nn zmin, nn zmax, nn zsorted, nn zset, nn zstr, nn zabs, nn zValueError⟩
  have M : TowC mg := ⟨⟨tMOST_CELLS, PySem.W.mg_of X G vMOST_CELLS⟩, ⟨tMOST_IN_CELL, PySem.W.mg_of X G vMOST_IN_CELL⟩, ⟨tMOST_NAME, PySem.W.mg_of X G vMOST_NAME⟩, nn zzip⟩
  have PR : PrimC K mg := ⟨aPR, PySem.W.mg_of X G vPR, fun H => .inr ⟨_, itsPR, nPR, lPR, rfl, rfl, zPR, rPR⟩⟩
  have clT : Cls K CT := ⟨pgCT, hdCT, poCT, saCT⟩
  have clB : Cls K CB := ⟨pgCB, hdCB, poCB, saCB⟩
  have clW : Cls K CW := ⟨pgCW, hdCW, poCW, saCW⟩
  have clP : Cls K CP := ⟨pgCP, hdCP, poCP, saCP⟩
  have W : TowK K mg CT := ⟨clT, nCTcells, PySem.W.mg_of X G gCT⟩
  have TD : TabD K mg CB := ⟨clB, nCBprime, nCBwide, nCBrows, nCBhigh, PySem.W.mg_of X G gCB, ⟨tMOST, PySem.W.mg_of X G vMOST⟩⟩
  have WD : WebD K mg CW := ⟨clW, nCWmany, nCWarrows, PySem.W.mg_of X G gCW, ⟨tMOST_PLACES, PySem.W.mg_of X G vMOST_PLACES⟩, ⟨tMOST_ARROWS, PySem.W.mg_of X G vMOST_ARROWS⟩, ⟨tMOST_SIGNS, PySem.W.mg_of X G vMOST_SIGNS⟩⟩
  have PD : PicD K mg CP := ⟨clP, nCPweb, nCPprime, nCPsizes, nCPtables, PySem.W.mg_of X G gCP, ⟨tMOST_SIZE, PySem.W.mg_of X G vMOST_SIZE⟩⟩
  have IB : IsC K CB := ⟨clB, haCB, hn, ht, hmCB⟩
  have IW : IsC K CW := ⟨clW, haCW, hn, ht, hmCW⟩
  have MT : Mk K CT fT := ⟨mkCT, aT, iT, kcCT⟩
  have MB : Mk K CB fB := ⟨mkCB, aB, iB, kcCB⟩
  have MW : Mk K CW fW := ⟨mkCW, aW, iW, kcCW⟩
  have MP : Mk K CP fP := ⟨mkCP, aP, iP, kcCP⟩
  have EP : ErrC K mg "NoPrime" NP fI := ⟨⟨⟨nmNP, qNP, NNP, bsNP, bmNP, snNP, subNP, abNP, colNP, ddNP, m0NP, m1NP, m2NP, m3NP, m5NP, xLNP, xbNP⟩, seNP, exNP, teNP, keNP⟩, aINP, tI, PySem.W.mg_of X G gNP, ⟨ieNP, gaNP, ggNP, exNP, hxNP, hn, ht, myNP⟩⟩
  have EN : ErrC K mg "NoNumber" NN fI := ⟨⟨⟨nmNN, qNN, NNN, bsNN, bmNN, snNN, subNN, abNN, colNN, ddNN, m0NN, m1NN, m2NN, m3NN, m5NN, xLNN, xbNN⟩, seNN, exNN, teNN, keNN⟩, aI, tI, PySem.W.mg_of X G gNN, ⟨ieNN, gaNN, ggNN, exNN, hxNN, hn, ht, myNN⟩⟩
  have ES : ErrC K mg "NoStops" NS fI := ⟨⟨⟨nmNS, qNS, NNS, bsNS, bmNS, snNS, subNS, abNS, colNS, ddNS, m0NS, m1NS, m2NS, m3NS, m5NS, xLNS, xbNS⟩, seNS, exNS, teNS, keNS⟩, aINS, tI, PySem.W.mg_of X G gNS, ⟨ieNS, gaNS, ggNS, exNS, hxNS, hn, ht, myNS⟩⟩
  have EX : ErrC K mg "NoExchange" NX fI := ⟨⟨⟨nmNX, qNX, NNX, bsNX, bmNX, snNX, subNX, abNX, colNX, ddNX, m0NX, m1NX, m2NX, m3NX, m5NX, xLNX, xbNX⟩, seNX, exNX, teNX, keNX⟩, aINX, tI, PySem.W.mg_of X G gNX, ⟨ieNX, gaNX, ggNX, exNX, hxNX, hn, ht, myNX⟩⟩
  have WC : WordC K mg NP NN NS NX CE fI := ⟨EP, EN, ES, EX, PySem.W.mg_of X G gCE, exm_ref exCE ieCE teCE sNP_CE, exm_ref exCE ieCE teCE sNN_CE, exm_ref exCE ieCE teCE sNS_CE, exm_ref exCE ieCE teCE sNX_CE, kit_ref ieNN teNN ssNN sNP_NN, kit_ref ieNS teNS ssNS sNP_NS, kit_ref ieNX teNX ssNX sNP_NX, kit_ref ieNP teNP ssNP sNN_NP, kit_ref ieNS teNS ssNS sNN_NS, kit_ref ieNX teNX ssNX sNN_NX, kit_ref ieNP teNP ssNP sNS_NP, kit_ref ieNN teNN ssNN sNS_NN, kit_ref ieNX teNX ssNX sNS_NX, kit_ref ieNP teNP ssNP sNX_NP, kit_ref ieNN teNN ssNN sNX_NN, kit_ref ieNS teNS ssNS sNX_NS⟩
  refine ⟨PySem.W.fnOf "law" "law" (defArgs sLaw) (defBody sLaw) (defScope sLaw) .none kV75 dc75 pm75 an75 (.ref cL) ct75, [(cL, PL)], spLaw K PL, fun p hp => by rw [List.mem_singleton.mp hp]; exact hP, fun p hp => by rw [List.mem_singleton.mp hp]; exact nP, fun p hp => by rw [List.mem_singleton.mp hp]; exact PySem.W.codeHd_of_K X hC, fun s v => .of_eq rfl, fun H a ns hl _ hT hS => ⟨a, ns, rfl, hS, hl, hT _ (List.mem_singleton.mpr rfl), fun _ => rfl⟩, fun base _ _ hTB => ?_⟩
  have TB := hTB (cL, PL) (List.mem_singleton.mpr rfl)
  have cInt : Cal l.prog w K mg base 1 "is_integer" (spInteger K) [] := ⟨⟨f2, _, _, [], ok_integer F2 T, PySem.W.mg_of X G a2, k2, b2, .nil⟩⟩
  have cNum : Cal l.prog w K mg base 2 "is_number" (spNumber K) [] := ⟨⟨f3, _, _, [], ok_number F3 cInt, PySem.W.mg_of X G a3, k3, b3, .nil⟩⟩
  have cPri : Cal l.prog w K mg base 2 "is_prime" (spPrime K) [] := ⟨⟨f4, _, _, [], ok_prime F4 PR cInt, PySem.W.mg_of X G a4, k4, b4, .nil⟩⟩
  have cAsc : Cal l.prog w K mg base 3 "is_ascending" (spAsc K) [] := ⟨⟨f6, _, _, [], ok_asc F6 T M cNum, PySem.W.mg_of X G a6, k6, b6, .nil⟩⟩
  have cInv : Cal l.prog w K mg base 1 "inverse" spInv [] := ⟨⟨f20, _, _, [], ok_inv F20 T, PySem.W.mg_of X G a20, k20, b20, .nil⟩⟩
  have cPiv : Cal l.prog w K mg base 1 "pivot" spPiv [] := ⟨⟨f21, _, _, [], ok_piv F21 T, PySem.W.mg_of X G a21, k21, b21, .nil⟩⟩
  have cSca : Cal l.prog w K mg base 1 "scaled_row" spScaled [] := ⟨⟨f22, _, _, [], ok_scaled F22 T, PySem.W.mg_of X G a22, k22, b22, .nil⟩⟩
  have cLess : Cal l.prog w K mg base 1 "less" spLess [] := ⟨⟨f23, _, _, [], ok_less F23 T M, PySem.W.mg_of X G a23, k23, b23, .nil⟩⟩
  have cCle : Cal l.prog w K mg base 2 "cleared" spCleared [] := ⟨⟨f24, _, _, [], ok_cleared F24 cLess, PySem.W.mg_of X G a24, k24, b24, .nil⟩⟩
  have cKeep : Cal l.prog w K mg base 3 "keep" spKeep [] := ⟨⟨f25, _, _, [], ok_keep F25 T cCle cPiv cSca cInv cLess, PySem.W.mg_of X G a25, k25, b25, .nil⟩⟩
  have cIsT : Cal l.prog w K mg base 1 "is_table" (spIsTab CB) [] := ⟨⟨f29, _, _, [], ok_isTab F29 T TD IB, PySem.W.mg_of X G a29, k29, b29, .nil⟩⟩
  have GB : FnOk l.prog w K mg base CX0 3 fB _ ["self", "prime", "wide", "rows"] (spTab CB) := ok_tab FB T TD cPri cNum
  have cTab : Cal l.prog w K mg base 5 "table_of" (spTabOf CB) [] := ⟨⟨f30, _, _, [], ok_tabOf F30 T TD MB GB bB, PySem.W.mg_of X G a30, k30, b30, .nil⟩⟩
  have cCor : Cal l.prog w K mg base 6 "corner" (spCorner CB) [] := ⟨⟨f31, _, _, [], ok_corner F31 T TD cTab, PySem.W.mg_of X G a31, k31, b31, .nil⟩⟩
  have cArr : Cal l.prog w K mg base 3 "is_arrow" spArrow [] := ⟨⟨f37, _, _, [], ok_arrow F37 T cNum, PySem.W.mg_of X G a37, k37, b37, .nil⟩⟩
  have GW : FnOk l.prog w K mg base CX0 4 fW _ ["self", "many", "arrows"] (spWeb CW) := ok_web FW T WD cNum cArr
  have cLine : Cal l.prog w K mg base 6 "line" (spLine CW) [] := ⟨⟨f38, _, _, [], ok_line F38 T WD MW GW bW, PySem.W.mg_of X G a38, k38, b38, .nil⟩⟩
  have cSiz : Cal l.prog w K mg base 3 "is_sizes" (spSizes CW) [] := ⟨⟨f42, _, _, [], ok_sizes F42 T WD PD.mo cNum, PySem.W.mg_of X G a42, k42, b42, .nil⟩⟩
  have GP : FnOk l.prog w K mg base CX0 4 fP _ ["self", "web", "prime", "sizes", "tables"] (spPic CP CW CB) := ok_pic FP T PD WD IW cPri cSiz cIsT
  have cPicOf : Cal l.prog w K mg base 6 "picture_of" (spPicOf CP CW) [] := ⟨⟨f43, _, _, [], ok_picOf F43 T PD WD TD MB GB bB MP GP bP, PySem.W.mg_of X G a43, k43, b43, .nil⟩⟩
  have cLaid : Cal l.prog w K mg base 7 "laid_beside" (spLaid CP CW CB) [] := ⟨⟨f44, _, _, [], ok_laid F44 T (nn zsum) PD WD TD MB GB bB cCor cPicOf, PySem.W.mg_of X G a44, k44, b44, .nil⟩⟩
  have cBarP : Cal l.prog w K mg base 7 "bar_picture" (spBarPic CP CW CB) [] := ⟨⟨f46, _, _, [], ok_barPic F46 T WD cTab cPicOf, PySem.W.mg_of X G a46, k46, b46, .nil⟩⟩
  have cCell : Cal l.prog w K mg base 4 "is_cell" (spCell K) [] := ⟨⟨f54, _, _, [], ok_cell F54 T M cAsc, PySem.W.mg_of X G a54, k54, b54, .nil⟩⟩
  have cFac : Cal l.prog w K mg base 1 "faces" spFaces [] := ⟨⟨f55, _, _, [], ok_faces F55 T, PySem.W.mg_of X G a55, k55, b55, .nil⟩⟩
  have cRim : Cal l.prog w K mg base 2 "rim_row" spRim [] := ⟨⟨f56, _, _, [], ok_rim F56 T cFac, PySem.W.mg_of X G a56, k56, b56, .nil⟩⟩
  have cOver : Cal l.prog w K mg base 8 "bar_over" (spOver CP CW CB) [] := ⟨⟨f58, _, _, [], ok_over F58 T cBarP, PySem.W.mg_of X G a58, k58, b58, .nil⟩⟩
  have GI : FnOk l.prog w K mg base CX0 1 fI _ ["self"] spF0 := ok_we FI
  have GT : FnOk l.prog w K mg base CX0 5 fT _ ["self", "cells"] (spTowG CT) := ok_towG FT T M W cCell cFac
  have cAscG : Cal l.prog w K mg base 3 "is_ascending" (V44.G.spAsc K) [] := ⟨⟨f6, _, _, [], V44.G.ok_asc F6 T ⟨nn zzip⟩ cNum, PySem.W.mg_of X G a6, k6, b6, .nil⟩⟩
  have HB : FnOk l.prog w K mg base (L2.CX l.prog w) 4 f57 _ ["tower", "prime", "deep"] (spBars K CT NP NN) := ok_bars F57 T W ⟨tMOST_DEEP, PySem.W.mg_of X G vMOST_DEEP⟩ EP EN GI bI cPri cNum cKeep cRim
  have HP : FnOk l.prog w K mg base (L2.CX l.prog w) 9 f59 _ ["tower", "prime", "deep", "stops"] (spTP K CT NP NN NS) := ok_tp F59 T W ⟨tMOST_STOPS, PySem.W.mg_of X G vMOST_STOPS⟩ ES GI bI HB (PySem.W.mg_of X G a57) k57 b57 cAscG cLine cOver cLaid
  have HX : FnOk l.prog w K mg base (L2.CX l.prog w) 7 f60 _ ["tower", "at"] (spEx K CT NN NX) := ok_exch F60 T W EX EN GI bI cNum cFac MT GT bT
  have cBag : Cal l.prog w K mg base 1 "_law_bag" (spBag K) [] := ⟨⟨f62, _, _, [], ok_bag F62 T, PySem.W.mg_of X G a62, k62, b62, .nil⟩⟩
  have cPick : Cal l.prog w K mg base 1 "_law_pick" spPick [] := ⟨⟨f63, _, _, [], ok_pick F63 ⟨T.len, T.int⟩, PySem.W.mg_of X G a63, k63, b63, .nil⟩⟩
  have cSome : Cal l.prog w K mg base 2 "_law_some" spSome [] := ⟨⟨f64, _, _, [], ok_some F64 ⟨T.len, T.int⟩ cPick, PySem.W.mg_of X G a64, k64, b64, .nil⟩⟩
  have cLF : Cal l.prog w K mg base 1 "_law_faces" spFaces [] := ⟨⟨f65, _, _, [], ok_lfaces F65 T, PySem.W.mg_of X G a65, k65, b65, .nil⟩⟩
  have cGr : Cal l.prog w K mg base 3 "_law_grown" spGrown [] := ⟨⟨f66, _, _, [], ok_grown F66 T cPick cSome cLF, PySem.W.mg_of X G a66, k66, b66, .nil⟩⟩
  have cDe : Cal l.prog w K mg base 3 "_law_deep" (V44.G.spDeep K) [] := ⟨⟨f67, _, _, [], V44.G.ok_deep F67 T cPick cSome, PySem.W.mg_of X G a67, k67, b67, .nil⟩⟩
  have cLI : Cal l.prog w K mg base 1 "_law_is_integer" (spInteger K) [] := ⟨⟨f68, _, _, [], ok_lint F68 T, PySem.W.mg_of X G a68, k68, b68, .nil⟩⟩
  have cWi : Cal l.prog w K mg base 2 "_law_is_within" (spWithin K) [] := ⟨⟨f69, _, _, [], ok_within F69 cLI, PySem.W.mg_of X G a69, k69, b69, .nil⟩⟩
  have cLP : Cal l.prog w K mg base 2 "_law_is_prime" (spLPrime K) [] := ⟨⟨f70, _, _, [], ok_lprime F70 cLI, PySem.W.mg_of X G a70, k70, b70, .nil⟩⟩
  have cAre : Cal l.prog w K mg base 3 "_law_are_stops" (spAre K) [] := ⟨⟨f71, _, _, [], ok_are F71 T cWi, PySem.W.mg_of X G a71, k71, b71, .nil⟩⟩
  have cFi : Cal l.prog w K mg base 1 "_law_first" spFirst [] := ⟨⟨f73, _, _, [], ok_first F73 T, PySem.W.mg_of X G a73, k73, b73, .nil⟩⟩
  have cSt : Cal l.prog w K mg base 4 "_law_stops" (spStops K) [] := ⟨⟨f74, _, _, [], ok_stops F74 T cPick cSome cDe, PySem.W.mg_of X G a74, k74, b74, .nil⟩⟩
  exact ok_law l75 c75 TB T W WC MT GT bT cBag cPick cSome cGr cDe cSt cWi cLP cAre cFi cLF HB (PySem.W.mg_of X G a57) k57 b57 HP (PySem.W.mg_of X G a59) k59 b59 HX (PySem.W.mg_of X G a60) k60 b60 l72 c72 (PySem.W.mg_of X G a72) k72 b72
theorem walk {l : PySem.W.OpenLaw} {q : Program} {loose : List Str} {XP : (Str → Option Value) → Heap → Prop} {YP : World → Heap → Prop} {d : DefRec} {K : Params → PySem.W.Frag} (hn : l.most = some 63) (hdf : d.params.defaults = []) (hY : ∀ (w : World) (h : Heap), YP w h → (K w.params).In h)
    (F : ∀ (w : World) (mg : Str → Option Value) (fa : Addr) (h : Heap), YP w h → (K w.params).In h → h.Ns mainGlobals mg → mg d.name = some (.ref fa) → LawAtS l w (K w.params) CX0 13 63 "_law_script" mg fa h) :
    PySem.W.WalkO q loose XP YP l.row.toRowW d [] (fun f vs => PySem.call f vs) :=
  walk_ofTs (n := 63) (k := 13) (x := "_law_script") (CX := fun _ => CX0) hn (by decide) hdf ⟨rfl, by decide, by decide⟩ hY F fun _ _ _ _ _ z => z
end V44

set_option Elab.async false
set_option linter.all false
open PySem PySem.W PyProof.Rows
set_option maxRecDepth 100000 in
set_option maxHeartbeats 0 in
theorem PySem.Challenge.cw_mapwebs_k44_towers_refused_holds : PySem.Challenge.rw_mapwebs_k44_towers_refused.Holds := by
  w_on; o_law; k_head; (case hw => w_witness2)
  k_fill
  refine V44.walk (l := PySem.Challenge.rw_mapwebs_k44_towers_refused) rfl rfl (fun w h Y => PySem.W.km_in_of Y) ?F
  case F =>
    intro w mg fa h Y KX G hmg
    have hT := PySem.W.km_tabs_of Y
    refine' V44.all_mk KX G hmg ?gCT ?gCB ?gCW ?gCP ?gNP ?gNN ?gNS ?gNX ?gCE ?a2 ?l2 ?c2 ?k2 ?a3 ?l3 ?c3 ?k3 ?a4 ?l4 ?c4 ?k4 ?a6 ?l6 ?c6 ?k6 ?a20 ?l20 ?c20 ?k20 ?a21 ?l21 ?c21 ?k21 ?a22 ?l22 ?c22 ?k22 ?a23 ?l23 ?c23 ?k23 ?a24 ?l24 ?c24 ?k24 ?a25 ?l25 ?c25 ?k25 ?a29 ?l29 ?c29 ?k29 ?a30 ?l30 ?c30 ?k30 ?a31 ?l31 ?c31 ?k31 ?a37 ?l37 ?c37 ?k37 ?a38 ?l38 ?c38 ?k38 ?a42 ?l42 ?c42 ?k42 ?a43 ?l43 ?c43 ?k43 ?a44 ?l44 ?c44 ?k44 ?a46 ?l46 ?c46 ?k46 ?a54 ?l54 ?c54 ?k54 ?a55 ?l55 ?c55 ?k55 ?a56 ?l56 ?c56 ?k56 ?a57 ?l57 ?c57 ?k57 ?a58 ?l58 ?c58 ?k58 ?a59 ?l59 ?c59 ?k59 ?a60 ?l60 ?c60 ?k60 ?a62 ?l62 ?c62 ?k62 ?a63 ?l63 ?c63 ?k63 ?a64 ?l64 ?c64 ?k64 ?a65 ?l65 ?c65 ?k65 ?a66 ?l66 ?c66 ?k66 ?a67 ?l67 ?c67 ?k67 ?a68 ?l68 ?c68 ?k68 ?a69 ?l69 ?c69 ?k69 ?a70 ?l70 ?c70 ?k70 ?a71 ?l71 ?c71 ?k71 ?a72 ?l72 ?c72 ?k72 ?a73 ?l73 ?c73 ?k73 ?a74 ?l74 ?c74 ?k74 ?a75 ?l75 ?c75 ?k75 ?aT ?iT ?lT ?cT ?kT ?tT ?aB ?iB ?lB ?cB ?kB ?tB ?aW ?iW ?lW ?cW ?kW ?tW ?aP ?iP ?lP ?cP ?kP ?tP ?aI ?iI ?lI ?cI ?kI ?tI ?aINP ?aINS ?aINX ?hn ?ht ?pgCT ?hdCT ?poCT ?saCT ?mkCT ?kcCT ?haCT ?hmCT ?icCT ?tcCT ?scCT ?pgCB ?hdCB ?poCB ?saCB ?mkCB ?kcCB ?haCB ?hmCB ?icCB ?tcCB ?scCB ?pgCW ?hdCW ?poCW ?saCW ?mkCW ?kcCW ?haCW ?hmCW ?icCW ?tcCW ?scCW ?pgCP ?hdCP ?poCP ?saCP ?mkCP ?kcCP ?haCP ?hmCP ?icCP ?tcCP ?scCP ?nCTcells ?nCBprime ?nCBwide ?nCBrows ?nCBhigh ?nCWmany ?nCWarrows ?nCPweb ?nCPprime ?nCPsizes ?nCPtables ?vMOST ?vMOST_PLACES ?vMOST_ARROWS ?vMOST_SIGNS ?vMOST_SIZE ?vMOST_CELLS ?vMOST_IN_CELL ?vMOST_NAME ?vMOST_DEEP ?vMOST_STOPS ?xLNP ?xbNP ?seNP ?keNP ?heNP ?gaNP ?ggNP ?hxNP ?myNP ?exNP ?ieNP ?teNP ?ssNP ?xLNN ?xbNN ?seNN ?keNN ?heNN ?gaNN ?ggNN ?hxNN ?myNN ?exNN ?ieNN ?teNN ?ssNN ?xLNS ?xbNS ?seNS ?keNS ?heNS ?gaNS ?ggNS ?hxNS ?myNS ?exNS ?ieNS ?teNS ?ssNS ?xLNX ?xbNX ?seNX ?keNX ?heNX ?gaNX ?ggNX ?hxNX ?myNX ?exNX ?ieNX ?teNX ?ssNX ?exCE ?ieCE ?teCE ?ssCE ?sNP_NN ?sNP_NS ?sNP_NX ?sNP_CE ?sNN_NP ?sNN_NS ?sNN_NX ?sNN_CE ?sNS_NP ?sNS_NN ?sNS_NX ?sNS_CE ?sNX_NP ?sNX_NN ?sNX_NS ?sNX_CE ?vPR ?lPR ?zPR ?rPR ?zlen ?zint ?zbool ?zisinstance ?ztuple ?zall ?zenumerate ?zlist ?zrange ?zmin ?zmax ?zsorted ?zset ?zstr ?zabs ?zValueError ?zzip ?zsum ?hP ?nP ?hC
    (case gCT => k_is)
    (case gCB => k_is)
    (case gCW => k_is)
    (case gCP => k_is)
    (case gNP => k_is)
    (case gNN => k_is)
    (case gNS => k_is)
    (case gNX => k_is)
    (case gCE => k_is)
    (case a2 => k_is)
    (case l2 => k_is)
    (case c2 => k_is)
    (case k2 => k_is)
    (case a3 => k_is)
    (case l3 => k_is)
    (case c3 => k_is)
    (case k3 => k_is)
    (case a4 => k_is)
    (case l4 => k_is)
    (case c4 => k_is)
    (case k4 => k_is)
    (case a6 => k_is)
    (case l6 => k_is)
    (case c6 => k_is)
    (case k6 => k_is)
    (case a20 => k_is)
    (case l20 => k_is)
    (case c20 => k_is)
    (case k20 => k_is)
    (case a21 => k_is)
    (case l21 => k_is)
    (case c21 => k_is)
    (case k21 => k_is)
    (case a22 => k_is)
    (case l22 => k_is)
    (case c22 => k_is)
    (case k22 => k_is)
    (case a23 => k_is)
    (case l23 => k_is)
    (case c23 => k_is)
    (case k23 => k_is)
    (case a24 => k_is)
    (case l24 => k_is)
    (case c24 => k_is)
    (case k24 => k_is)
    (case a25 => k_is)
    (case l25 => k_is)
    (case c25 => k_is)
    (case k25 => k_is)
    (case a29 => k_is)
    (case l29 => k_is)
    (case c29 => k_is)
    (case k29 => k_is)
    (case a30 => k_is)
    (case l30 => k_is)
    (case c30 => k_is)
    (case k30 => k_is)
    (case a31 => k_is)
    (case l31 => k_is)
    (case c31 => k_is)
    (case k31 => k_is)
    (case a37 => k_is)
    (case l37 => k_is)
    (case c37 => k_is)
    (case k37 => k_is)
    (case a38 => k_is)
    (case l38 => k_is)
    (case c38 => k_is)
    (case k38 => k_is)
    (case a42 => k_is)
    (case l42 => k_is)
    (case c42 => k_is)
    (case k42 => k_is)
    (case a43 => k_is)
    (case l43 => k_is)
    (case c43 => k_is)
    (case k43 => k_is)
    (case a44 => k_is)
    (case l44 => k_is)
    (case c44 => k_is)
    (case k44 => k_is)
    (case a46 => k_is)
    (case l46 => k_is)
    (case c46 => k_is)
    (case k46 => k_is)
    (case a54 => k_is)
    (case l54 => k_is)
    (case c54 => k_is)
    (case k54 => k_is)
    (case a55 => k_is)
    (case l55 => k_is)
    (case c55 => k_is)
    (case k55 => k_is)
    (case a56 => k_is)
    (case l56 => k_is)
    (case c56 => k_is)
    (case k56 => k_is)
    (case a57 => k_is)
    (case l57 => k_is)
    (case c57 => k_is)
    (case k57 => k_is)
    (case a58 => k_is)
    (case l58 => k_is)
    (case c58 => k_is)
    (case k58 => k_is)
    (case a59 => k_is)
    (case l59 => k_is)
    (case c59 => k_is)
    (case k59 => k_is)
    (case a60 => k_is)
    (case l60 => k_is)
    (case c60 => k_is)
    (case k60 => k_is)
    (case a62 => k_is)
    (case l62 => k_is)
    (case c62 => k_is)
    (case k62 => k_is)
    (case a63 => k_is)
    (case l63 => k_is)
    (case c63 => k_is)
    (case k63 => k_is)
    (case a64 => k_is)
    (case l64 => k_is)
    (case c64 => k_is)
    (case k64 => k_is)
    (case a65 => k_is)
    (case l65 => k_is)
    (case c65 => k_is)
    (case k65 => k_is)
    (case a66 => k_is)
    (case l66 => k_is)
    (case c66 => k_is)
    (case k66 => k_is)
    (case a67 => k_is)
    (case l67 => k_is)
    (case c67 => k_is)
    (case k67 => k_is)
    (case a68 => k_is)
    (case l68 => k_is)
    (case c68 => k_is)
    (case k68 => k_is)
    (case a69 => k_is)
    (case l69 => k_is)
    (case c69 => k_is)
    (case k69 => k_is)
    (case a70 => k_is)
    (case l70 => k_is)
    (case c70 => k_is)
    (case k70 => k_is)
    (case a71 => k_is)
    (case l71 => k_is)
    (case c71 => k_is)
    (case k71 => k_is)
    (case a72 => k_is)
    (case l72 => k_is)
    (case c72 => k_is)
    (case k72 => k_is)
    (case a73 => k_is)
    (case l73 => k_is)
    (case c73 => k_is)
    (case k73 => k_is)
    (case a74 => k_is)
    (case l74 => k_is)
    (case c74 => k_is)
    (case k74 => k_is)
    (case a75 => k_is)
    (case l75 => k_is)
    (case c75 => k_is)
    (case k75 => k_is)
    (case aT => k_is)
    (case iT => k_is)
    (case lT => k_is)
    (case cT => k_is)
    (case kT => k_is)
    (case tT => k_is)
    (case aB => k_is)
    (case iB => k_is)
    (case lB => k_is)
    (case cB => k_is)
    (case kB => k_is)
    (case tB => k_is)
    (case aW => k_is)
    (case iW => k_is)
    (case lW => k_is)
    (case cW => k_is)
    (case kW => k_is)
    (case tW => k_is)
    (case aP => k_is)
    (case iP => k_is)
    (case lP => k_is)
    (case cP => k_is)
    (case kP => k_is)
    (case tP => k_is)
    (case aI => k_is)
    (case iI => k_is)
    (case lI => k_is)
    (case cI => k_is)
    (case kI => k_is)
    (case tI => k_is)
    (case aINP => k_is)
    (case aINS => k_is)
    (case aINX => k_is)
    (case hn => k_is)
    (case ht => k_is)
    (case pgCT => k_is)
    (case hdCT => k_is)
    (case poCT => k_is)
    (case saCT => k_is)
    (case mkCT => k_is)
    (case kcCT => k_is)
    (case haCT => k_is)
    (case hmCT => k_is)
    (case icCT => k_is)
    (case tcCT => k_is)
    (case scCT => first | rfl | k_is)
    (case pgCB => k_is)
    (case hdCB => k_is)
    (case poCB => k_is)
    (case saCB => k_is)
    (case mkCB => k_is)
    (case kcCB => k_is)
    (case haCB => k_is)
    (case hmCB => k_is)
    (case icCB => k_is)
    (case tcCB => k_is)
    (case scCB => first | rfl | k_is)
    (case pgCW => k_is)
    (case hdCW => k_is)
    (case poCW => k_is)
    (case saCW => k_is)
    (case mkCW => k_is)
    (case kcCW => k_is)
    (case haCW => k_is)
    (case hmCW => k_is)
    (case icCW => k_is)
    (case tcCW => k_is)
    (case scCW => first | rfl | k_is)
    (case pgCP => k_is)
    (case hdCP => k_is)
    (case poCP => k_is)
    (case saCP => k_is)
    (case mkCP => k_is)
    (case kcCP => k_is)
    (case haCP => k_is)
    (case hmCP => k_is)
    (case icCP => k_is)
    (case tcCP => k_is)
    (case scCP => first | rfl | k_is)
    (case nCTcells => k_is)
    (case nCBprime => k_is)
    (case nCBwide => k_is)
    (case nCBrows => k_is)
    (case nCBhigh => k_is)
    (case nCWmany => k_is)
    (case nCWarrows => k_is)
    (case nCPweb => k_is)
    (case nCPprime => k_is)
    (case nCPsizes => k_is)
    (case nCPtables => k_is)
    (case vMOST => k_is)
    (case vMOST_PLACES => k_is)
    (case vMOST_ARROWS => k_is)
    (case vMOST_SIGNS => k_is)
    (case vMOST_SIZE => k_is)
    (case vMOST_CELLS => k_is)
    (case vMOST_IN_CELL => k_is)
    (case vMOST_NAME => k_is)
    (case vMOST_DEEP => k_is)
    (case vMOST_STOPS => k_is)
    (case xLNP => k_is)
    (case xbNP => decide +kernel)
    (case seNP => k_is)
    (case keNP => k_is)
    (case heNP => k_is)
    (case gaNP => k_is)
    (case ggNP => k_is)
    (case hxNP => k_is)
    (case myNP => k_is)
    (case exNP => k_is)
    (case ieNP => k_is)
    (case teNP => k_is)
    (case ssNP => first | rfl | k_is)
    (case xLNN => k_is)
    (case xbNN => decide +kernel)
    (case seNN => k_is)
    (case keNN => k_is)
    (case heNN => k_is)
    (case gaNN => k_is)
    (case ggNN => k_is)
    (case hxNN => k_is)
    (case myNN => k_is)
    (case exNN => k_is)
    (case ieNN => k_is)
    (case teNN => k_is)
    (case ssNN => first | rfl | k_is)
    (case xLNS => k_is)
    (case xbNS => decide +kernel)
    (case seNS => k_is)
    (case keNS => k_is)
    (case heNS => k_is)
    (case gaNS => k_is)
    (case ggNS => k_is)
    (case hxNS => k_is)
    (case myNS => k_is)
    (case exNS => k_is)
    (case ieNS => k_is)
    (case teNS => k_is)
    (case ssNS => first | rfl | k_is)
    (case xLNX => k_is)
    (case xbNX => decide +kernel)
    (case seNX => k_is)
    (case keNX => k_is)
    (case heNX => k_is)
    (case gaNX => k_is)
    (case ggNX => k_is)
    (case hxNX => k_is)
    (case myNX => k_is)
    (case exNX => k_is)
    (case ieNX => k_is)
    (case teNX => k_is)
    (case ssNX => first | rfl | k_is)
    (case exCE => k_is)
    (case ieCE => k_is)
    (case teCE => k_is)
    (case ssCE => first | rfl | k_is)
    (case sNP_NN => k_is)
    (case sNP_NS => k_is)
    (case sNP_NX => k_is)
    (case sNP_CE => k_is)
    (case sNN_NP => k_is)
    (case sNN_NS => k_is)
    (case sNN_NX => k_is)
    (case sNN_CE => k_is)
    (case sNS_NP => k_is)
    (case sNS_NN => k_is)
    (case sNS_NX => k_is)
    (case sNS_CE => k_is)
    (case sNX_NP => k_is)
    (case sNX_NN => k_is)
    (case sNX_NS => k_is)
    (case sNX_CE => k_is)
    (case vPR => k_is)
    (case lPR => k_is)
    (case zPR => decide +kernel)
    (case rPR => exact .cons ⟨_, rfl⟩ (.cons ⟨_, rfl⟩ (.cons ⟨_, rfl⟩ (.cons ⟨_, rfl⟩ (.cons ⟨_, rfl⟩ (.cons ⟨_, rfl⟩ .nil))))))
    (case zlen => k_is)
    (case zint => k_is)
    (case zbool => k_is)
    (case zisinstance => k_is)
    (case ztuple => k_is)
    (case zall => k_is)
    (case zenumerate => k_is)
    (case zlist => k_is)
    (case zrange => k_is)
    (case zmin => k_is)
    (case zmax => k_is)
    (case zsorted => k_is)
    (case zset => k_is)
    (case zstr => k_is)
    (case zabs => k_is)
    (case zValueError => k_is)
    (case zzip => k_is)
    (case zsum => k_is)
    (case hP => exact hT _ (List.Mem.head _))
    (case nP => first | rfl | decide +kernel | k_is)
    (case hC => first | kernel_rfl | rfl | k_is)
