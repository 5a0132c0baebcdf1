import PyProof.Rows.All
import Wide.All
import OpenK.AllK
import Wide.FinOn
import HandS.ForMost
import HandS.Codes
import PySem.Challenge.RW_mapwebs_k20_forms_of_rows
import HandS.IsInst
import HandS.OwnEq
import KE.GoesMore
import HandS.Iter
import HandS.ForExc
import HandS.ExcInit
import HandS.ExcField
import KE.KExcIs
import HandS.TupAny
import HandS.Zip
import HandS.Lambda
import HandS.ExcValue
import HandS.EndTab
import KE.KNestM
set_option Elab.async false
set_option linter.all false
set_option maxRecDepth 100000
set_option maxHeartbeats 4000000
namespace F20
open PySem L2
def top (i : Nat) : Stmt := PySem.Challenge.pw_mapwebs_k20_forms_of_rows.main.body.getD i (.Pass ⟨0, 0, 0, 0⟩)
abbrev sDraw : Stmt := top 19
abbrev sAny : Stmt := top 20
/-- the pot stands at a: a list of the cells' list and four ints -/
def PotAt (H : Hp) (a : Addr) : Prop := ∃ (c : Addr) (ns : List Int) (i : Nat) (z s n : Int), H a = some (.lst [.ref c, .int (i : Int), .int z, .int s, .int n]) ∧ H c = some (.lst (ns.map V.int))
/-- a step that changes nothing but the pot, and makes new things -/
structure Go (a : Addr) (H H' : Hp) : Prop where
  pot : PotAt H' a
  keep : ∀ b o, b ≠ a → H b = some o → H' b = some o
  cell : ∀ (c : Addr) (xs : List V), H a = some (.lst (.ref c :: xs)) → ∃ ys, H' a = some (.lst (.ref c :: ys))
theorem Go.trans {a : Addr} {H H1 H2 : Hp} (x : Go a H H1) (y : Go a H1 H2) : Go a H H2 := ⟨y.1, fun b o n e => y.2 b o n (x.2 b o n e), fun c xs h => let ⟨ys, h'⟩ := x.3 c xs h; y.3 c ys h'⟩
theorem Go.refl {a : Addr} {H : Hp} (x : PotAt H a) : Go a H H := ⟨x, fun _ _ _ e => e, fun _ xs h => ⟨xs, h⟩⟩
theorem PotAt.ne {H : Hp} {a : Addr} (x : PotAt H a) {b : Addr} (h : H b = none) : a ≠ b := by
  obtain ⟨c, ns, i, z, s, n, h1, _⟩ := x
  exact ne_of_none h1 h
theorem PotAt.upd {H : Hp} {a : Addr} (x : PotAt H a) {b : Addr} {o : HO} (h : H b = none) : PotAt (upd H b o) a := by
  obtain ⟨c, ns, i, z, s, n, h1, h2⟩ := x
  exact ⟨c, ns, i, z, s, n, by rw [upd_ne (ne_of_none h1 h)]; exact h1, by rw [upd_ne (ne_of_none h2 h)]; exact h2⟩
theorem Go.new {a : Addr} {H : Hp} (x : PotAt H a) {b : Addr} {o : HO} (h : H b = none) : Go a H (upd H b o) := ⟨x.upd h, fun c u n e => by rw [upd_ne (ne_of_none e h)]; exact e, fun c xs e => ⟨xs, by rw [upd_ne (ne_of_none e h)]; exact e⟩⟩
/-- a store in the pot -/
theorem PotAt.put {H : Hp} {a c : Addr} {ns : List Int} {i : Nat} {z s n : Int} {xs : List V} (h1 : H a = some (.lst xs)) (h2 : H c = some (.lst (ns.map V.int))) (hc : c ≠ a) (i' : Nat) (z' s' n' : Int) :
    PotAt (L2.upd H a (.lst [.ref c, .int (i' : Int), .int z', .int s', .int n'])) a := ⟨c, ns, i', z', s', n', upd_same, by rw [upd_ne hc]; exact h2⟩
def spDraw : Sp := fun vs H Q _ => ∃ (a : Addr) (m : Int), vs = [.ref a, .int m] ∧ PotAt H a ∧ 0 < m ∧ m < 1000000 ∧ ∀ (r : Int) (H' : Hp), 0 ≤ r → r < m → Go a H H' → Q (.int r) H'
structure Bl (mg : Str → Option Value) : Prop where
  len : mg "len" = none
  int : mg "int" = none
theorem upd_upd {H : Hp} {a : Addr} {o u : HO} : upd (upd H a o) a u = upd H a u := by
  funext b
  by_cases h : b = a
  · rw [h, upd_same, upd_same]
  · rw [upd_ne h, upd_ne h, upd_ne h]
section
variable {P : Program} {w : World} {K : PySem.W.Frag} {mg : Str → Option Value} {base : Heap}
theorem scD : FnScope ["purse", "many", "cell", "told", "made"] ["purse", "many"] (defScope sDraw) := ⟨rfl, rfl, rfl, by decide +kernel, rfl, by decide +kernel, by decide +kernel⟩
theorem ok_draw {f : Addr} {fd : FuncData} (F : Fun K "_law_part" "_law_part" sDraw f fd) (T : Bl mg) : FnOk P w K mg base CX0 1 f fd ["purse", "many"] spDraw := by
  refine F.ok scD (fun vs H Q E h => ?_) (fun cdv A outer s H vs Q E hr h => ?_)
  · obtain ⟨a, m, rfl, _⟩ := h
    rfl
  · obtain ⟨a, m, rfl, ⟨c, ns, i, z, t, n, h1, h2⟩, hm, hm2, k⟩ := h
    have hca : c ≠ a := ne_of h2 h1 (by intro q; cases ns <;> cases q)
    refine ⟨_, C8.pss_cut (ps_if (PW.pt (pw_and (pt_cmpR op_lt (pe_ix ix_list (pv 0) pe_int (fun _ _ => rfl)) pe_int (nomark _)) (pw_and1 (pt_cmpR op_lt (pe_ix ix_list (pv 0) pe_int (fun _ _ => rfl)) (pe_callB call_len_seq (by rfl) T.len PySem.boot_len (pa_cons (pe_ix ix_list (pv 0) pe_int (fun _ _ => rfl)) pa_nil)) (nomark _)))))
        (pss_cons (ps_set (i := 2) scD.nd rfl (Or.inl rfl) (pe_ix ix_list (pe_ix ix_list (pv 0) pe_int (fun _ _ => rfl)) (pe_ix ix_list (pv 0) pe_int (fun _ _ => rfl)) (fun _ _ => rfl)))
        (pss_cons (ps_asg (pe_op op_add (pe_ix ix_list (pv 0) pe_int (fun _ _ => rfl)) pe_int) (pg_sub (pv 0) pe_int set_list))
        (pss_cons (ps_asg (pe_op op_mod (pe_callTy call_int1 (by rfl) T.int (by decide +kernel) (pa_cons (pe_op op_add (pe_op op_add (pe_op op_mul (pe_ix ix_list (pv 0) pe_int (fun _ _ => rfl)) pe_int) (pv 2)) pe_int) pa_nil)) pe_int) (pg_sub (pv 0) pe_int set_list))
        (pss_one (ps_asg (pe_ifExp (pt_cmpR op_ge (pv 2) (pe_op op_pow pe_int pe_int) (nomark _)) (pv 2) pe_int) (pg_sub (pv 0) pe_int set_list))))))
        pss_nil)
      (pss_cons (ps_if (pt_cmpR op_gt (pe_ix ix_list (pv 0) pe_int (fun _ _ => rfl)) pe_int (nomark _))
        (pss_cons (ps_set (i := 3) scD.nd rfl (Or.inl rfl) (pe_op op_mod (pe_callTy call_int1 (by rfl) T.int (by decide +kernel) (pa_cons (pe_ix ix_list (pv 0) pe_int (fun _ _ => rfl)) pa_nil)) (pv 1)))
        (pss_cons (ps_asg (pe_op op_fdiv (pe_ix ix_list (pv 0) pe_int (fun _ _ => rfl)) (pv 1)) (pg_sub (pv 0) pe_int set_list))
        (pss_one (ps_ret (pv 3))))) pss_nil)
      (pss_cons (ps_asg (pe_op op_add (pe_ix ix_list (pv 0) pe_int (fun _ _ => rfl)) pe_int) (pg_sub (pv 0) pe_int set_list))
      (pss_cons (ps_set (i := 4) scD.nd rfl (Or.inl rfl) (pe_op op_mod (pe_callTy call_int1 (by rfl) T.int (by decide +kernel) (pa_cons (pe_op op_mul (pe_op op_add (pe_ix ix_list (pv 0) pe_int (fun _ _ => rfl)) (pe_op op_mul pe_int (pe_ix ix_list (pv 0) pe_int (fun _ _ => rfl)))) pe_int) pa_nil)) pe_int))
      (pss_cons (ps_set (i := 4) scD.nd rfl (Or.inl rfl) (pe_op op_mod (pe_callTy call_int1 (by rfl) T.int (by decide +kernel) (pa_cons (pe_op op_mul (pv 4) (pe_op op_add (pe_op op_fdiv (pv 4) pe_int) pe_int)) pa_nil)) pe_int))
      (pss_cons (ps_set (i := 4) scD.nd rfl (Or.inl rfl) (pe_op op_mod (pe_callTy call_int1 (by rfl) T.int (by decide +kernel) (pa_cons (pe_op op_mul (pv 4) (pe_op op_add (pe_op op_fdiv (pv 4) pe_int) pe_int)) pa_nil)) pe_int))
      (pss_one (ps_ret (pe_op op_mod (pe_callTy call_int1 (by rfl) T.int (by decide +kernel) (pa_cons (pe_op op_fdiv (pv 4) pe_int) pa_nil)) (pv 1))))))))), ?_⟩
    refine ⟨fun σ' H' => (∃ v, σ' = [some (.ref a), some (.int m), v, Option.none, Option.none]) ∧ Go a H H', ?_, ?_⟩
    · -- the first if
      refine ⟨_, rfl, _, _, _, _, rfl, rfl, SqL.of h1, rfl, _, _, rfl, rfl, _, rfl, ?_⟩
      have base0 : Go a H H := Go.refl ⟨c, ns, i, z, t, n, h1, h2⟩
      refine ite2 (fun _ => ?_) (fun _ => ?_)
      · refine ⟨_, rfl, _, _, _, _, rfl, rfl, SqL.of h1, rfl, _, rfl, _, _, _, _, rfl, rfl, SqL.of h1, rfl, _, _, rfl, .inl (SqL.of h2), _, _, rfl, rfl, _, rfl, ?_⟩
        refine ite2 (fun e => ?_) (fun _ => ?_)
        · have hi : i < ns.length := by
            have e' := of_decide_eq_true e
            rw [List.length_map] at e'
            omega
          have hcell : (ns.map V.int)[i]? = some (V.int ns[i]) := by
            rw [List.getElem?_map, List.getElem?_eq_getElem hi] <;> rfl
          refine ⟨_, rfl, _, _, _, _, rfl, rfl, SqL.of h1, rfl, _, rfl, _, _, _, _, rfl, rfl, SqL.of h1, rfl, _, _, _, _, rfl, rfl, SqL.of h2, atI_nat hcell, ?_⟩
          refine ⟨_, rfl, _, _, _, _, rfl, rfl, SqL.of h1, rfl, _, _, rfl, rfl, _, rfl, _, _, _, _, rfl, rfl, h1, rfl, ?_⟩
          refine ⟨_, rfl, _, _, _, _, rfl, rfl, SqL.of upd_same, rfl, _, _, rfl, rfl, .inr (by decide), _, rfl, _, _, rfl, rfl, _, _, rfl, rfl, .inl ⟨_, rfl, _, _, rfl, rfl, (by show (0 : Int) < 2147483399; decide), _, rfl, _, _, _, _, rfl, rfl, upd_same, rfl, ?_⟩⟩
          refine ⟨_, rfl, _, _, rfl, rfl, ⟨by decide, by decide, by decide⟩, _, _, rfl, rfl, _, rfl, ?_⟩
          have fin : ∀ z' s' : Int, Go a H (upd H a (.lst [.ref c, .int ((i + 1 : Nat) : Int), .int z', .int s', .int n])) := fun z' s' => ⟨PotAt.put (i := i) (z := z) (s := t) (n := n) h1 h2 hca _ _ _ _, fun b o e q => by rw [upd_ne e]; exact q, fun c' xs h => by rw [h1] at h; cases h; exact ⟨_, upd_same⟩⟩
          refine ite2 (fun _ => ?_) (fun _ => ?_)
          · refine ⟨_, rfl, _, rfl, _, _, _, _, rfl, rfl, upd_same, rfl, ⟨_, rfl⟩, ?_⟩
            rw [upd_upd, upd_upd]
            exact fin _ _
          · refine ⟨_, rfl, _, _, _, _, rfl, rfl, upd_same, rfl, ⟨_, rfl⟩, ?_⟩
            rw [upd_upd, upd_upd]
            exact fin _ _
        · exact ⟨⟨_, rfl⟩, base0⟩
      · refine iteF ?_
        exact ⟨⟨_, rfl⟩, base0⟩
    · rintro σ' H' ⟨⟨v, rfl⟩, ⟨c, ns, i, z, t, n, h1, h2⟩, kp, k3⟩
      have hca : c ≠ a := ne_of h2 h1 (by intro q; cases ns <;> cases q)
      have fin : ∀ z' s' n' : Int, Go a H (upd H' a (.lst [.ref c, .int (i : Int), .int z', .int s', .int n'])) := fun z' s' n' => ⟨PotAt.put (i := i) (z := z) (s := t) (n := n) h1 h2 hca _ _ _ _, fun b o e q => by rw [upd_ne e]; exact kp b o e q, fun c' xs h => by obtain ⟨ys, h'⟩ := k3 c' xs h; rw [h1] at h'; cases h'; exact ⟨_, upd_same⟩⟩
      refine ⟨_, rfl, _, _, _, _, rfl, rfl, SqL.of h1, rfl, _, _, rfl, rfl, _, rfl, ?_⟩
      refine ite2 (fun _ => ?_) (fun _ => ?_)
      · refine ⟨_, rfl, _, _, _, _, rfl, rfl, SqL.of h1, rfl, .inl ⟨_, rfl, _, rfl, _, _, rfl, rfl, hm, ?_⟩⟩
        refine ⟨_, rfl, _, _, _, _, rfl, rfl, SqL.of h1, rfl, _, rfl, _, _, rfl, rfl, ⟨hm, by omega⟩, _, rfl, _, _, _, _, rfl, rfl, h1, rfl, _, rfl, ?_⟩
        exact k _ _ (Int.emod_nonneg _ (by omega)) (Int.emod_lt_of_pos _ hm) (fin _ _ _)
      · refine ⟨_, rfl, _, _, _, _, rfl, rfl, SqL.of h1, rfl, _, _, rfl, rfl, _, rfl, _, _, _, _, rfl, rfl, h1, rfl, ?_⟩
        refine ⟨_, rfl, _, _, _, _, rfl, rfl, SqL.of upd_same, rfl, _, rfl, _, _, _, _, rfl, rfl, SqL.of upd_same, rfl, _, _, rfl, rfl, .inl (by decide), _, _, rfl, rfl, _, _, rfl, rfl, .inr (by decide), .inl ⟨_, rfl, _, _, rfl, rfl, (by show (0 : Int) < 2147483563; decide), ?_⟩⟩
        have b1 := Int.emod_nonneg ((t + 62089911 * (n + 1)) * 69621) (show (2147483563 : Int) ≠ 0 by decide)
        have b2 := Int.emod_lt_of_pos ((t + 62089911 * (n + 1)) * 69621) (show (0 : Int) < 2147483563 by decide)
        refine ⟨_, rfl, _, rfl, _, _, rfl, rfl, ⟨by decide, by decide⟩, _, _, rfl, rfl, _, _, rfl, rfl, .inl ⟨by omega, by omega⟩, .inl ⟨_, rfl, _, _, rfl, rfl, (by show (0 : Int) < 2147483647; decide), ?_⟩⟩
        generalize (t + 62089911 * (n + 1)) * 69621 % 2147483563 = y1 at *
        have b3 := Int.emod_nonneg (y1 * (y1 / 1499 + 40014)) (show (2147483647 : Int) ≠ 0 by decide)
        have b4 := Int.emod_lt_of_pos (y1 * (y1 / 1499 + 40014)) (show (0 : Int) < 2147483647 by decide)
        refine ⟨_, rfl, _, rfl, _, _, rfl, rfl, ⟨by decide, by decide⟩, _, _, rfl, rfl, _, _, rfl, rfl, .inl ⟨by omega, by omega⟩, .inl ⟨_, rfl, _, _, rfl, rfl, (by show (0 : Int) < 2147483629; decide), ?_⟩⟩
        refine ⟨_, rfl, _, _, rfl, rfl, ⟨by decide, by decide⟩, .inl ⟨_, rfl, _, rfl, _, _, rfl, rfl, hm, ?_⟩⟩
        exact k _ _ (Int.emod_nonneg _ (by omega)) (Int.emod_lt_of_pos _ hm) (fin _ _ _)
end
end F20

set_option Elab.async false
set_option linter.all false
set_option maxRecDepth 100000
set_option maxHeartbeats 4000000
namespace F20
open PySem L2
abbrev sInteger : Stmt := top 1
abbrev sNumber : Stmt := top 2
abbrev sArrow : Stmt := top 11
/-- built-ins that the text leaves as they are -/
structure Gb (mg : Str → Option Value) : Prop where
  len : mg "len" = none
  int : mg "int" = none
  bool : mg "bool" = none
  isi : mg "isinstance" = none
  tup : mg "tuple" = none
  all : mg "all" = none
  enum : mg "enumerate" = none
  list : mg "list" = none
  rng : mg "range" = none
  min : mg "min" = none
  max : mg "max" = none
  sorted : mg "sorted" = none
  set : mg "set" = none
  str : mg "str" = none
  abs : mg "abs" = none
  ve : mg "ValueError" = none
/-- what is expected of a caller of a plain def -/
abbrev Cal := @C8.Cal
def isI : V → Bool | .int _ => true | _ => false
def isB : V → Bool | .bl _ => true | _ => false
/-- a thing, as isinstance sees it; of a tuple also its items, n deep -/
def Th (K : PySem.W.Frag) (H : Hp) : Nat → V → Prop
  | n, x => ∃ t, TyX K H x t ∧ PySem.W.kitOne K t (.type "int") = some (isI x || isB x) ∧ PySem.W.kitOne K t (.type "bool") = some (isB x) ∧
    ((PySem.W.kitOne K t (.type "tuple") = some false ∧ ∀ a, x = .ref a → ∃ o, H a = some o ∧ ∀ xs, o ≠ .tup xs) ∨ (PySem.W.kitOne K t (.type "tuple") = some true ∧ ∃ a xs, x = .ref a ∧ H a = some (.tup xs) ∧
      match n with | 0 => True | m + 1 => ∀ y ∈ xs, Th K H m y))
theorem Th.zero {K : PySem.W.Frag} {H : Hp} {n : Nat} {x : V} (h : Th K H n x) : Th K H 0 x := by
  unfold Th at h ⊢
  obtain ⟨t, a, b, c, d⟩ := h
  refine ⟨t, a, b, c, ?_⟩
  rcases d with d | ⟨d, a, xs, e, f, _⟩
  · exact .inl d
  · exact .inr ⟨d, a, xs, e, f, True.intro⟩
def numV (m : Int) : V → Bool
  | .int i => decide (0 ≤ i) && decide (i ≤ m)
  | _ => false
theorem tyes_in {σ : L2.St} {H : Hp} {te : TE} {R : V → Hp → Prop} {N : Hp → Prop} (h : te σ H R) : tYes σ H (fun b H3 => if b = true then te σ H3 R else N H3) := by
  show (if true = true then te σ H R else N H)
  rw [if_pos rfl]
  exact h
theorem numV_true {m : Int} {x : V} : numV m x = true ↔ ∃ i, x = .int i ∧ 0 ≤ i ∧ i ≤ m := by
  cases x <;> simp [numV]
theorem TyOf.ext {K : PySem.W.Frag} {H H' : Hp} {x : V} {t : Value} (h : TyOf K H x t) (e : Ext H H') : TyOf K H' x t := by
  cases h with
  | non => exact .non
  | bl x => exact .bl x
  | int i => exact .int i
  | str x => exact .str x
  | flt x => exact .flt x
  | lst h => exact .lst (e _ _ h)
  | frz h => exact .frz (e _ _ h)
  | tup h => exact .tup (e _ _ h)
  | dK h => exact .dK (e _ _ h)
  | dT h => exact .dT (e _ _ h)
  | ins h c a b d f => exact .ins (e _ _ h) c a b d f
theorem TyX.ext {K : PySem.W.Frag} {H H' : Hp} {x : V} {t : Value} (h : TyX K H x t) (e : Ext H H') : TyX K H' x t := by
  cases h with
  | base h => exact .base (TyOf.ext h e)
  | byt b => exact .byt b
  | set h => exact .set (e _ _ h)
  | kList h c => exact .kList h c
  | kTuple h c => exact .kTuple h c
  | kDict h c => exact .kDict h c
  | fTuple h => exact .fTuple (e _ _ h)
  | fDict h => exact .fDict (e _ _ h)
theorem Th.ext {K : PySem.W.Frag} {H H' : Hp} (e : Ext H H') : ∀ {n : Nat} {x : V}, Th K H n x → Th K H' n x
  | 0, x, h => by
    unfold Th at h ⊢
    obtain ⟨t, a, b, c, d⟩ := h
    refine ⟨t, TyX.ext a e, b, c, ?_⟩
    rcases d with ⟨d, f⟩ | ⟨d, a, xs, g, f, _⟩
    · exact .inl ⟨d, fun a q => let ⟨o, h1, h2⟩ := f a q; ⟨o, e _ _ h1, h2⟩⟩
    · exact .inr ⟨d, a, xs, g, e _ _ f, True.intro⟩
  | n + 1, x, h => by
    unfold Th at h ⊢
    obtain ⟨t, a, b, c, d⟩ := h
    refine ⟨t, TyX.ext a e, b, c, ?_⟩
    rcases d with ⟨d, f⟩ | ⟨d, a, xs, g, f, i⟩
    · exact .inl ⟨d, fun a q => let ⟨o, h1, h2⟩ := f a q; ⟨o, e _ _ h1, h2⟩⟩
    · exact .inr ⟨d, a, xs, g, e _ _ f, fun y hy => Th.ext e (i y hy)⟩
/-- an arrow of m places -/
def isArr (H : Hp) (m : Int) (x : V) : Prop := ∃ (a : Addr) (p q : Int), x = .ref a ∧ H a = some (.tup [.int p, .int q]) ∧ 0 ≤ p ∧ p < m ∧ 0 ≤ q ∧ q < m
def spInteger (K : PySem.W.Frag) : Sp := fun vs H Q _ => ∃ x : V, vs = [x] ∧ Th K H 0 x ∧ Q (.bl (isI x)) H
def spNumber (K : PySem.W.Frag) : Sp := fun vs H Q _ => ∃ (m : Int) (x : V), vs = [.int m, x] ∧ Th K H 0 x ∧ Q (.bl (numV m x)) H
def spArrow (K : PySem.W.Frag) : Sp := fun vs H Q _ => ∃ (m : Int) (x : V), vs = [.int m, x] ∧ Th K H 1 x ∧ ∀ (b : Bool) (H' : Hp), (b = true ↔ isArr H m x) → Ext H H' → Q (.bl b) H'
section
variable {P : Program} {w : World} {K : PySem.W.Frag} {mg : Str → Option Value} {base : Heap}
theorem scInt : FnScope ["thing"] ["thing"] (defScope sInteger) := ⟨rfl, rfl, rfl, by decide +kernel, rfl, by decide +kernel, by decide +kernel⟩
theorem ok_integer {f : Addr} {fd : FuncData} (F : L2.Fun K "is_integer" "is_integer" sInteger f fd) (T : Gb mg) : FnOk P w K mg base CX0 1 f fd ["thing"] (spInteger K) := by
  refine F.ok scInt (fun vs H Q E h => ?_) (fun cdv A outer s H vs Q E hr h => ?_)
  · obtain ⟨x, rfl, _⟩ := h
    rfl
  · obtain ⟨x, rfl, th, k⟩ := h
    unfold Th at th
    obtain ⟨t, ty, ki, kb, _⟩ := th
    refine ⟨_, pss_one (ps_ret (pe_and (pe_callB call_isi (by rfl) T.isi (by decide +kernel) (pa_cons (pv 0) (pa_cons (pe_bltn (v := .ty "int") (by rfl) T.int (by decide +kernel) rfl) pa_nil)))
      (pe_one (pe_not (pe_callB call_isi (by rfl) T.isi (by decide +kernel) (pa_cons (pv 0) (pa_cons (pe_bltn (v := .ty "bool") (by rfl) T.bool (by decide +kernel) rfl) pa_nil))))))), ?_⟩
    refine ⟨_, rfl, x, .ty "int", t, .type "int", _, rfl, .ty _, ty, ki, _, rfl, ?_⟩
    cases x <;> first
      | exact iteF k
      | (refine iteT ⟨_, rfl, _, .ty "bool", t, .type "bool", _, rfl, .ty _, ty, kb, _, rfl, ?_⟩; exact k)
theorem scNum : FnScope ["most", "thing"] ["most", "thing"] (defScope sNumber) := ⟨rfl, rfl, rfl, by decide +kernel, rfl, by decide +kernel, by decide +kernel⟩
theorem ok_number {f : Addr} {fd : FuncData} (F : L2.Fun K "is_number" "is_number" sNumber f fd) (cI : Cal P w K mg base 1 "is_integer" (spInteger K) []) : FnOk P w K mg base CX0 2 f fd ["most", "thing"] (spNumber K) := by
  refine F.ok scNum (fun vs H Q E h => ?_) (fun cdv A outer s H vs Q E hr h => ?_)
  · obtain ⟨m, x, rfl, _⟩ := h
    rfl
  · obtain ⟨m, x, rfl, th, k⟩ := h
    refine ⟨_, pss_one (ps_ret (pe_and (C8.pe_c cI hr (by decide) (by rfl) (pa_cons (pv 1) pa_nil)) (pe_one (pe_chain op_le op_le pe_int (pv 1) (pv 0))))), ?_⟩
    refine ⟨_, rfl, x, rfl, th, _, rfl, ?_⟩
    cases x with
    | int i =>
      refine iteT ⟨_, rfl, _, _, rfl, rfl, _, rfl, ?_⟩
      by_cases h0 : (0 : Int) ≤ i
      · rw [decide_eq_true h0]
        refine iteT ⟨_, rfl, _, _, rfl, rfl, ?_⟩
        have e : numV m (.int i) = decide (i ≤ m) := by simp [numV, h0]
        rw [e] at k
        exact k
      · rw [decide_eq_false h0]
        have e : numV m (.int i) = false := by simp [numV, h0]
        rw [e] at k
        exact iteF k
    | _ => exact iteF k
theorem scArr : FnScope ["many", "thing", "place"] ["many", "thing"] (defScope sArrow) := ⟨rfl, rfl, rfl, by decide +kernel, rfl, by decide +kernel, by decide +kernel⟩
theorem ok_arrow {f : Addr} {fd : FuncData} (F : L2.Fun K "is_arrow" "is_arrow" sArrow f fd) (T : Gb mg) (cN : Cal P w K mg base 2 "is_number" (spNumber K) []) : FnOk P w K mg base CX0 3 f fd ["many", "thing"] (spArrow K) := by
  refine F.ok scArr (fun vs H Q E h => ?_) (fun cdv A outer s H vs Q E hr h => ?_)
  · obtain ⟨m, x, rfl, _⟩ := h
    rfl
  · obtain ⟨m, x, rfl, th, k⟩ := h
    unfold Th at th
    obtain ⟨t, ty, ki, kb, kt⟩ := th
    refine ⟨_, pss_cons (ps_if (PW.pt (pw_or (pt_not (pt_val (pe_callB call_isi (by rfl) T.isi (by decide +kernel) (pa_cons (pv 1) (pa_cons (pe_bltn (v := .ty "tuple") (by rfl) T.tup (by decide +kernel) rfl) pa_nil)))))
        (pw_or1 (pt_cmpR op_ne (pe_callB call_len_seq (by rfl) T.len PySem.boot_len (pa_cons (pv 1) pa_nil)) pe_int (nomark _))))) (pss_one (ps_ret pe_bl)) pss_nil)
      (pss_one (ps_ret (pe_callB (cr_all rfl) (by rfl) T.all (by decide +kernel) (pa_cons (pe_lc (own := [("place", 2)]) (g := gName 2) (tt := tYes) rfl scArr.nd (pi_tup (pv 1)) (blkOk_by (N := ["many", "thing", "place"]) (sc := defScope sArrow) (by decide +kernel)) (fun _ _ _ _ _ => pg_name (i := 2) scArr.nd rfl (Or.inl rfl)) (fun _ _ _ _ _ => pts_nil)
        (fun _ _ _ _ _ => C8.pe_c cN hr (by decide) (by rfl) (pa_cons (pe_op op_sub (pv 0) pe_int) (pa_cons (pv 2) pa_nil)))) pa_nil)))), ?_⟩
    rcases kt with ⟨kt, nt⟩ | ⟨kt, a, xs, rfl, ha, it⟩
    · refine ⟨_, rfl, x, .ty "tuple", t, .type "tuple", _, rfl, .ty _, ty, kt, _, rfl, ?_⟩
      refine iteT (iteT ?_)
      refine k false H ⟨fun z => Bool.noConfusion z, fun ⟨a, p, q, e, ha, _⟩ => by obtain ⟨o, h1, h2⟩ := nt a e; rw [ha] at h1; cases h1; exact absurd rfl (h2 _)⟩ Ext.rfl'
    · refine ⟨_, rfl, _, .ty "tuple", t, .type "tuple", _, rfl, .ty _, ty, kt, _, rfl, ?_⟩
      refine iteF ?_
      refine ⟨_, rfl, a, xs, rfl, .inr (SqT.of ha), rfl, _, rfl, ?_⟩
      by_cases hl : xs.length = 2
      · have hl' : (!decide (V.int (xs.length : Int) = V.int 2)) = false := by rw [hl]; rfl
        rw [hl']
        refine iteF ?_
        refine ⟨_, rfl, a, rfl, ⟨_, SqT.of ha⟩, fun D hD => ?_⟩
        have hda : a ≠ D := ne_of_none ha hD
        refine lc_tup (K := K) (a := a) (xs := xs) (fun i H' => H' = upd H D (.lst (((xs.take i).map (numV (m - 1))).map V.bl))) (by simp) (fun i H' _ e => by subst e; exact SqT.of (by rw [upd_ne hda]; exact ha)) ?_ ?_
        · rintro i y H' hi rfl
          refine ⟨rfl, tyes_in ?_⟩
          have hy : y ∈ xs := List.mem_of_getElem? hi
          have it' : ∀ y ∈ xs, Th K H 0 y := it
          have ty0 : Th K (upd H D (.lst (((xs.take i).map (numV (m - 1))).map V.bl))) 0 y := (it' y hy).ext (Ext.upd hD)
          refine ⟨_, rfl, _, _, rfl, rfl, _, rfl, m - 1, y, rfl, ty0, _, upd_same, small1000 (by simp; omega), ?_⟩
          rw [upd_upd, List.take_succ, hi]
          simp
        · rintro H' rfl
          refine ⟨D, (xs.take xs.length).map (numV (m - 1)), rfl, SqL.of upd_same, ?_⟩
          refine k _ _ ?_ (Ext.upd hD)
          match xs, hl with
          | [u, v], _ =>
            show (numV (m - 1) u && (numV (m - 1) v && true)) = true ↔ _
            rw [Bool.and_true, Bool.and_eq_true, numV_true, numV_true]
            constructor
            · rintro ⟨⟨p, rfl, hp⟩, ⟨q, rfl, hq⟩⟩
              exact ⟨a, p, q, rfl, ha, hp.1, by omega, hq.1, by omega⟩
            · rintro ⟨b, p, q, e, hb, h1, h2, h3, h4⟩
              cases e
              rw [ha] at hb
              cases hb
              exact ⟨⟨p, rfl, h1, by omega⟩, ⟨q, rfl, h3, by omega⟩⟩
      · have hl' : (!decide (V.int (xs.length : Int) = V.int 2)) = true := by
          have : ¬ (V.int (xs.length : Int) = V.int 2) := fun z => hl (by injection z with z; omega)
          simp [this]
        rw [hl']
        refine iteT ?_
        refine k false H ⟨fun z => Bool.noConfusion z, fun ⟨b, p, q, e, hb, _⟩ => ?_⟩ Ext.rfl'
        cases e
        rw [ha] at hb
        cases hb
        exact absurd rfl hl
end
end F20

set_option Elab.async false
set_option linter.all false
set_option maxRecDepth 100000
set_option maxHeartbeats 4000000
/-! enumerate over a tuple that is tracked: the iterator (by the library's WalksT.enumerateD over Draws.tuple), the rule of the layer, the loop. -/
namespace F20
open PySem L2 PyProof.Rows
open PySem.Sem (wp)
theorem en_new (l : Addr) (us : Array Value) (n : Nat) (dd : Option Addr) (sl : Array (Option Value)) :
    Meets (Builtin.«enumerate.__new__» ⟨[.type "enumerate", .ref l], []⟩) fun _ R s => s.heap.get? l = some { cls := .type "tuple", dict := dd, data := .seq us n, slots := sl } ∧
      R (.ok (.ret (.ref (s.heap.objs.size + 1)))) { s with heap := (s.heap.push { cls := .type "tuple_iterator", data := .fields #[.ref l, .int 0 0] }).push { cls := .type "enumerate", data := .fields #[.none, .bool false, .ref s.heap.objs.size, rawInt 0, .none, .none] } } := by
  refine .of_wp fun prog w A R s hh => ?_
  rcases s with ⟨hp, gs, dr, tk, os⟩
  rcases hh with ⟨there, hR⟩
  have isT : Heap.IsTuple (Shared.heap ⟨hp, gs, dr, tk, os⟩) l us := ⟨_, there, rfl, n, rfl⟩
  have same := sub_enumerate
  have big : (hp.push { cls := .type "tuple_iterator", data := .fields #[.ref l, .int 0 0] }).objs.size = hp.objs.size + 1 := Heap.size_push ..
  have hR' : R (.ok (.ret (.ref (hp.push { cls := .type "tuple_iterator", data := .fields #[.ref l, .int 0 0] }).objs.size))) ⟨(hp.push { cls := .type "tuple_iterator", data := .fields #[.ref l, .int 0 0] }).push { cls := .type "enumerate", data := .fields #[.none, .bool false, .ref hp.objs.size, rawInt 0, .none, .none] }, gs, dr, tk, os⟩ := by
    rw [big]; exact hR
  wp_walk using AutoSeq1.wpAny_loadPart' there
  refine wpAny_stack_any fun st => wpAny_pure ?_
  split
  · rename_i c _ _ _ _ _
    cases (c == Value.type "enumerate") <;>
    · wp_walk using AutoSeq1.wpAny_loadPart' there, wpAny_pyIter_tuple isT
      exact ⟨_, rfl, hR'⟩
  · wp_walk using AutoSeq1.wpAny_loadPart' there, wpAny_pyIter_tuple isT
    exact ⟨_, rfl, hR'⟩
theorem call_en {prog : Program} {w : World} {A : Around} {E : Value → Shared → Prop} {s : Shared} {l : Addr} {us : Array Value} {Q : Value → Shared → Prop} (isT : s.heap.IsTuple l us)
    (h : ∀ h' : Heap, IsEnum h' (s.heap.objs.size + 1) s.heap.objs.size 0 .none → h'.IsTupleIter s.heap.objs.size l 0 → (∀ b o, s.heap.get? b = some o → h'.get? b = some o) → Q (.ref (s.heap.objs.size + 1)) { s with heap := h' }) :
    wpAny (model prog w) A (call (.type "enumerate") [.ref l]) Q E s := by
  rcases isT with ⟨⟨c, dd, dt, sl⟩, there, hc, n, hd⟩
  obtain rfl : c = .type "tuple" := hc
  obtain rfl : dt = .seq us n := hd
  refine callType_new F.called_enumerate (by decide) (F.typeCall_enumerate_1 _) (F.newCall_enumerate_1 _) (fun obj => F.args_object_init_2 obj _) F.entry_enumerate_new (en_new l us n dd sl) ⟨there, ?_⟩
  have big : (s.heap.push { cls := .type "tuple_iterator", data := .fields #[.ref l, .int 0 0] }).objs.size = s.heap.objs.size + 1 := Heap.size_push ..
  have en : IsEnum ((s.heap.push { cls := .type "tuple_iterator", data := .fields #[.ref l, .int 0 0] }).push { cls := .type "enumerate", data := .fields #[.none, .bool false, .ref s.heap.objs.size, rawInt 0, .none, .none] }) (s.heap.objs.size + 1) s.heap.objs.size 0 .none := by
    rw [← big]
    exact Heap.get?_push_size _ rfl
  exact ⟨⟨_, en, rfl⟩, h _ en ⟨_, Heap.get?_push_of_some _ (Heap.get?_push_size _ rfl), rfl, rfl⟩ fun b o z => Heap.get?_push_of_some _ (Heap.get?_push_of_some _ z)⟩
/-- the items of the tracked tuple at a, each in a new pair with its number -/
def ItEn (a : Addr) : It where
  go := fun i H => ∃ (xs : List V) (x : V), H a = some (.tup xs) ∧ xs[i]? = some x
  yld := fun i H v H' => ∃ (p : Addr) (x : V), v = .ref p ∧ H p = none ∧ H' = upd H p (.tup [.int (i : Nat), x]) ∧ ∀ xs, H a = some (.tup xs) → xs[i]? = some x
  stop := fun i H => ∃ xs : List V, H a = some (.tup xs) ∧ xs.length = i
def enAt (a e it : Addr) (i : Nat) (h : Heap) : Prop := (∃ old, IsEnum h e it (i : Int) old) ∧ h.IsTupleIter it a i ∧ e ≠ it
section
variable {X : Cx} {pins : List (Addr × Obj)} {σ : L2.St} {H : Hp} {s : Shared} {a e it : Addr} {xs : List V}
/-- the library's walk, at a state that the layer knows -/
theorem en_walk (hc : X.calm = true) (I : Inv X pins σ H s) (hf : ∀ b ∈ [e, it], FpOk X pins H b) (hne : e ≠ it) (hq : H a = some (.tup xs)) :
    ∃ its : List Value, Vals xs its ∧ s.heap.IsTuple a its.toArray ∧ WalksT X.prog X.w X.A e (e :: [it, a]) [e, it] its.toArray.size (fun i vals => ∃ t x, its.toArray[i]? = some x ∧ vals = #[.int i t, x])
      (fun i h => (∃ old, IsEnum h e it i old) ∧ (h.IsTupleIter it a i ∧ h.IsTuple a its.toArray)) (fun i T h => (∃ x, IsEnumOut h e it ((i : Int) + 1) x T) ∧ (h.IsTupleIter it a (i + 1) ∧ h.IsTuple a its.toArray) ∧ T ≠ e ∧ T ≠ it) := by
  obtain ⟨its, rv, p, _⟩ := I.tuple (SqT.of hq)
  have un : ∀ b ∈ [e, it], b ≠ a := fun b hb z => by
    have n := (hf b hb).1
    rw [z, hq] at n
    cases n
  refine ⟨its, rv, p, WalksT.enumerateD (Draws.tuple (A := X.A.in1) (I.ok.hd hc) it a (Ne.symm (un it (by simp))) its.toArray) e hne ?_ (by simp)⟩
  intro z
  rcases List.mem_cons.mp z with z | z
  · exact hne z
  · exact un e (by simp) (List.mem_singleton.mp z)
end
theorem en_turn {P : Program} {w : World} {K : PySem.W.Frag} {elts : List Expr} {kk : Nat} {tpos : Pos} (a e it : Addr) : Turn P w K (.Tuple elts kk tpos) (ItEn a) [e, it] e (enAt a e it) := by
  refine ⟨by simp, fun i h st b hb => ?_, fun i h h' st k => ⟨?_, ?_, st.2.2⟩, ?_, ?_, fun A i s Q E st q => ?_⟩
  · rcases st with ⟨⟨old, en⟩, ⟨ob, there, _, dt⟩, _⟩
    rcases List.mem_cons.mp hb with z | z
    · subst z
      exact ⟨_, en, fun v q => by cases q⟩
    · rw [List.mem_singleton.mp z]
      exact ⟨ob, there, fun v q => by rw [dt] at q; cases q⟩
  · exact st.1.imp fun old en => k e (by simp) _ en
  · exact st.2.1.at fun ob z => k it (by simp) ob z
  · intro X eP eW eK hc i pins s σ H E I hf st go
    subst eP eW eK
    obtain ⟨xs, x, hq, hx⟩ := go
    obtain ⟨its, rv, isT, W⟩ := en_walk hc I hf st.2.2 hq
    obtain ⟨u, hu, ru⟩ := rv.get hx
    have lt : i < its.toArray.size := by simpa using (List.getElem?_eq_some_iff.mp hu).1
    refine W.item i s _ E lt ⟨st.1, st.2.1, isT⟩ fun T vals h1 tk pt big hT mid keep1 => ⟨_, rfl, ?_⟩
    obtain ⟨t, y, hy, rfl⟩ := pt
    obtain rfl : y = u := by
      have hu' : its.toArray[i]? = some u := by simpa using hu
      exact Option.some.inj (hy.symm.trans hu')
    refine W.go elts kk tpos i T { s with heap := h1, toks := tk } _ E mid fun h2 st2 keep2 => ?_
    have nT : T ∉ [e, it] := W.apart i T h1 mid
    have hT2 : h2.IsTuple T #[.int (i : Nat) t, y] := hT.at fun ob z => keep2 T ob nT z
    have J : Inv X pins σ (upd H T (.tup [.int (i : Nat), x])) { s with heap := h2, toks := tk } :=
      I.turnedNew (ch := [e, it]) (fun b ob hb z => keep2 b ob hb (keep1 b ob hb z)) hf big ⟨by show 2 ≤ sizeLine; decide, [.int i t, y], .cons ⟨_, rfl⟩ (.cons ru .nil), hT2⟩
    refine ⟨.ref T, _, J, rfl, ⟨T, x, rfl, I.hok.fresh big, rfl, fun ys hy => by rw [hq] at hy; cases hy; exact hx⟩, ⟨st2.1, st2.2.1, st.2.2⟩, fun b hb => ?_⟩
    have nb : b ≠ T := fun z => nT (by rw [← z]; exact hb)
    rw [upd_ne nb]
    exact (hf b hb).1
  · intro X eP eW eK hc i pins s σ H E I hf st stop
    subst eP eW eK
    obtain ⟨xs, hq, hl⟩ := stop
    obtain ⟨its, rv, isT, W⟩ := en_walk hc I hf st.2.2 hq
    have ei : its.toArray.size = i := by
      rw [← hl, rv.length]
      simp
    refine W.done s _ E ?_ fun h1 tk keep => ⟨rfl, ?_⟩
    · rw [ei]
      exact ⟨st.1, st.2.1, isT⟩
    · exact I.turnedL (ch := [e, it]) keep hf
  · exact wpAny_pyIter_enum st.1.choose_spec q
def iEn (ta : TA) : TI := fun σ H R => ta σ H fun vs H1 => ∃ (a : Addr) (xs : List V), vs = [.ref a] ∧ H1 a = some (.tup xs) ∧ R (ItEn a) H1
/-- for .., .. in enumerate(a tuple) -/
theorem pi_en {X : Cx} {e : Expr} {ta : TA} {p pos tpos : Pos} {elts : List Expr} {kk : Nat} (hg : Gl X "enumerate") (hm : X.mg "enumerate" = none) (ha : PA X [e] ta) (hs : starEach [e] X.env = [(false, eval e X.env)] := by rfl) :
    PI X (.Tuple elts kk tpos) (.Call (.Name "enumerate" p) [e] [] pos) (iEn ta) := by
  constructor
  intro pins s σ H R I h
  refine Call_ (ld_blt I hg hm boot_enumerate (PyProof.Rows.callWith_type1 (thn (ha.run pos pins s σ H _ I h) ?_) hs rfl))
  rintro us s1 ⟨vs, H1, I1, r, a, xs, rfl, hq, q⟩
  match us, r with
  | [u], .cons ru .nil =>
    obtain rfl : u = Value.ref a := ru
    obtain ⟨its, rv, isT, _⟩ := I1.tuple (SqT.of hq)
    refine call_en isT fun h1 en ti keep => wpAny_pyIter_enum en ?_
    refine ⟨_, [s1.heap.objs.size + 1, s1.heap.objs.size], _, _, H1, rfl, I1.kept (t' := s1.toks) keep, en_turn a _ _, ⟨⟨.none, en⟩, ti, Nat.succ_ne_self _⟩, fun b hb => ?_, q⟩
    have big : s1.heap.objs.size ≤ b := by
      rcases List.mem_cons.mp hb with z | z
      · rw [z]; exact Nat.le_succ _
      · rw [List.mem_singleton.mp z]; exact Nat.le_refl _
    exact I1.fpOk big (I1.hok.fresh big)
/-- the loop by an invariant of its own -/
theorem for_en {a : Addr} {xs : List V} {g : TG} {tb : TS} {D : Ends} {σ : L2.St} {H : Hp} (Pv : Nat → L2.St → Hp → Prop) (h0 : Pv 0 σ H) (hl : ∀ i σ H, Pv i σ H → H a = some (.tup xs))
    (hs : ∀ (i : Nat) x σ H p, xs[i]? = some x → Pv i σ H → H p = Option.none → g (.ref p) σ (upd H p (.tup [.int (i : Nat), x])) fun σ2 H2 => tb { D with nx := Pv (i + 1), ct := Pv (i + 1), bk := D.nx } σ2 H2) (hd : ∀ σ H, Pv xs.length σ H → D.nx σ H) :
    ∃ W : Nat → Nat → L2.St → Hp → Prop, (∃ m, W 0 m σ H) ∧ ∀ i m σ H, W i m σ H → ((ItEn a).stop i H ∧ D.nx σ H) ∨ ((ItEn a).go i H ∧ ∃ N : L2.St → Hp → Prop, (∀ σ' H', N σ' H' → ∃ m', m' < m ∧ W (i + 1) m' σ' H') ∧ ∀ x H', (ItEn a).yld i H x H' → g x σ H' fun σ2 H2 => tb { D with nx := N, ct := N, bk := D.nx } σ2 H2) := by
  refine ⟨fun i m σ H => i + m = xs.length ∧ Pv i σ H, ⟨_, Nat.zero_add _, h0⟩, ?_⟩
  intro i m σ H ⟨em, p⟩
  have q := hl i σ H p
  cases m with
  | zero =>
    have ei : i = xs.length := em
    rw [ei] at p ⊢
    exact .inl ⟨⟨xs, q, rfl⟩, hd σ H p⟩
  | succ m =>
    have lt : i < xs.length := by omega
    have hx : xs[i]? = some xs[i] := List.getElem?_eq_getElem lt
    refine .inr ⟨⟨xs, _, q, hx⟩, Pv (i + 1), fun σ' H' p' => ⟨m, Nat.lt_succ_self m, by omega, p'⟩, ?_⟩
    rintro y H' ⟨t, x, rfl, nt, rfl, hy⟩
    obtain rfl : x = xs[i] := Option.some.inj ((hy xs q).symm.trans hx)
    exact hs i _ σ H t hx p nt
end F20

set_option Elab.async false
set_option linter.all false
set_option maxRecDepth 100000
set_option maxHeartbeats 4000000
namespace F20
open PySem L2
abbrev sWebI : Stmt := inClass (top 10) 0
/-- what is tracked but for the pot -/
def Off (a : Addr) (H : Hp) : Hp := fun b => if b = a then none else match H b with
  | some (.tbl _) => none
  | o => o
theorem off_at {a b : Addr} {H : Hp} {o : HO} (h : b ≠ a) (e : H b = some o) (nt : ∀ ps, o ≠ .tbl ps) : Off a H b = some o := by
  unfold Off
  rw [if_neg h, e]
  cases o with
  | tbl ps => exact absurd rfl (nt ps)
  | _ => rfl
theorem off_some {a b : Addr} {H : Hp} {o : HO} (h : Off a H b = some o) : b ≠ a ∧ H b = some o ∧ ∀ ps, o ≠ .tbl ps := by
  unfold Off at h
  by_cases e : b = a
  · rw [if_pos e] at h; cases h
  · rw [if_neg e] at h
    cases q : H b with
    | none => rw [q] at h; cases h
    | some u =>
      rw [q] at h
      cases u with
      | tbl ps => cases h
      | _ => cases h; exact ⟨e, rfl, fun _ z => nomatch z⟩
theorem Off.ext {a : Addr} {H H' : Hp} (g : ∀ b o, b ≠ a → H b = some o → H' b = some o) : Ext (Off a H) (Off a H') := fun b o h => by
  obtain ⟨n, e, nt⟩ := off_some h
  exact off_at n (g b o n e) nt
theorem Go.off {a : Addr} {H H' : Hp} (g : Go a H H') : Ext (Off a H) (Off a H') := Off.ext g.2
theorem Go.of_ext {a : Addr} {H H' : Hp} (p : PotAt H a) (e : Ext H H') : Go a H H' := by
  obtain ⟨c, ns, i, z, s, n, h1, h2⟩ := p
  exact ⟨⟨c, ns, i, z, s, n, e _ _ h1, e _ _ h2⟩, fun b o _ h => e b o h, fun c xs h => ⟨xs, e _ _ h⟩⟩
theorem pot_no {H : Hp} {a b : Addr} {o : HO} (p : PotAt H a) (h : H b = some o) (no : ∀ xs, o ≠ .lst xs) : b ≠ a := by
  obtain ⟨c, ns, i, z, s, n, h1, h2⟩ := p
  intro e
  rw [e, h1] at h
  cases h
  exact no _ rfl
/-! ### kinds of things -/
section
variable {K : PySem.W.Frag} {S : Hp} {n : Nat}
theorem Th.plain {x : V} {t : Value} (ty : TyX K S x t) (h1 : PySem.W.kitOne K t (.type "int") = some (isI x || isB x)) (h2 : PySem.W.kitOne K t (.type "bool") = some (isB x)) (h3 : PySem.W.kitOne K t (.type "tuple") = some false)
    (h : ∀ a, x = .ref a → ∃ o, S a = some o ∧ ∀ xs, o ≠ .tup xs) : Th K S n x := by
  unfold Th
  exact ⟨t, ty, h1, h2, .inl ⟨h3, h⟩⟩
theorem Th.non : Th K S n .non := Th.plain (.base .non) (kit_ty (by decide +kernel)) (kit_ty (by decide +kernel)) (kit_ty (by decide +kernel)) fun _ h => nomatch h
theorem Th.bl (b : Bool) : Th K S n (.bl b) := Th.plain (.base (.bl b)) (kit_ty (show kitB "bool" "int" = some true by decide +kernel)) (kit_ty (show kitB "bool" "bool" = some true by decide +kernel)) (kit_ty (by decide +kernel)) fun _ h => nomatch h
theorem Th.int (i : Int) : Th K S n (.int i) := Th.plain (.base (.int i)) (kit_ty (show kitB "int" "int" = some true by decide +kernel)) (kit_ty (show kitB "int" "bool" = some false by decide +kernel)) (kit_ty (by decide +kernel)) fun _ h => nomatch h
theorem Th.str (z : Str) : Th K S n (.str z) := Th.plain (.base (.str z)) (kit_ty (show kitB "str" "int" = some false by decide +kernel)) (kit_ty (show kitB "str" "bool" = some false by decide +kernel)) (kit_ty (by decide +kernel)) fun _ h => nomatch h
theorem Th.lst {p : Addr} {xs : List V} (h : S p = some (.lst xs)) : Th K S n (.ref p) :=
  Th.plain (.base (.lst h)) (kit_ty (show kitB "list" "int" = some false by decide +kernel)) (kit_ty (show kitB "list" "bool" = some false by decide +kernel)) (kit_ty (by decide +kernel)) fun a e => by cases e; exact ⟨_, h, fun _ z => nomatch z⟩
theorem Th.dct {p : Addr} {kvs : List (Key × V)} (h : S p = some (.dK kvs)) : Th K S n (.ref p) :=
  Th.plain (.base (.dK h)) (kit_ty (show kitB "dict" "int" = some false by decide +kernel)) (kit_ty (show kitB "dict" "bool" = some false by decide +kernel)) (kit_ty (by decide +kernel)) fun a e => by cases e; exact ⟨_, h, fun _ z => nomatch z⟩
theorem Th.tup {p : Addr} {xs : List V} (h : S p = some (.tup xs)) (it : ∀ y ∈ xs, Th K S n y) : Th K S (n + 1) (.ref p) := by
  unfold Th
  exact ⟨_, .base (.tup h), kit_ty (show kitB "tuple" "int" = some false by decide +kernel), kit_ty (show kitB "tuple" "bool" = some false by decide +kernel), .inr ⟨kit_ty (by decide +kernel), p, xs, rfl, h, it⟩⟩
end
theorem Th.tup0 {K : PySem.W.Frag} {S : Hp} {p : Addr} {xs : List V} (h : S p = some (.tup xs)) : Th K S 0 (.ref p) := by
  unfold Th
  exact ⟨_, .base (.tup h), kit_ty (show kitB "tuple" "int" = some false by decide +kernel), kit_ty (show kitB "tuple" "bool" = some false by decide +kernel), .inr ⟨kit_ty (by decide +kernel), p, xs, rfl, h, True.intro⟩⟩
theorem off_le {a : Addr} {H : Hp} : Ext (Off a H) H := fun b o h => (off_some h).2.1
/-- .. over the making of lambdas, too -/
theorem off_extN {a : Addr} {H H' : Hp} (e : LamX.ExtN H H') : Ext (Off a H) H' := fun b o h => e b o (off_some h).2.1 (off_some h).2.2
def spAny : Sp := fun vs H Q _ => ∃ (a l : Addr) (xs : List V), vs = [.ref a, .ref l] ∧ PotAt H a ∧ l ≠ a ∧ H l = some (.lst xs) ∧ xs ≠ [] ∧ xs.length ≤ 1000 ∧ ∀ (x : V) (H' : Hp), x ∈ xs → Go a H H' → Q x H'
/-- a tuple of tuples of ints stands at b -/
def TT (H : Hp) (b : Addr) (ll : List (List Int)) : Prop := ∃ as : List Addr, H b = some (.tup (as.map V.ref)) ∧ Paired (fun a l => H a = some (.tup (l.map V.int))) as ll
theorem Paired.imp' {α β : Type} {F G : α → β → Prop} (h : ∀ a b, F a b → G a b) : ∀ {l : List α} {k : List β}, Paired F l k → Paired G l k
  | _, _, .nil => .nil
  | _, _, .cons a r => .cons (h _ _ a) (Paired.imp' h r)
theorem TT.ext {H H' : Hp} {b : Addr} {ll : List (List Int)} (e : Ext H H') (h : TT H b ll) : TT H' b ll := by
  obtain ⟨as, h1, h2⟩ := h
  exact ⟨as, e _ _ h1, Paired.imp' (fun a l h => e _ _ h) h2⟩
/-! ### lists of arrows -/
def ArrL (m : Int) (l : List Int) : Prop := ∃ p q : Int, l = [p, q] ∧ 0 ≤ p ∧ p < m ∧ 0 ≤ q ∧ q < m
/-- the tuples at these places are these -/
abbrev PT2 (S : Hp) (as : List Addr) (ll : List (List Int)) : Prop := Paired (fun a l => S a = some (.tup (l.map V.int))) as ll
theorem PT2.len {S : Hp} : ∀ {as : List Addr} {ll : List (List Int)}, PT2 S as ll → as.length = ll.length
  | _, _, .nil => rfl
  | _, _, .cons _ r => congrArg (· + 1) (PT2.len r)
theorem PT2.get {S : Hp} : ∀ {as : List Addr} {ll : List (List Int)} {i : Nat} {a : Addr}, PT2 S as ll → as[i]? = some a → ∃ l, ll[i]? = some l ∧ S a = some (.tup (l.map V.int))
  | _, _, i, _, .nil, h => by simp at h
  | _, _, 0, _, .cons x _, h => by cases h; exact ⟨_, rfl, x⟩
  | _, _, i + 1, _, .cons _ r, h => PT2.get (i := i) r (by simpa using h)
theorem PT2.put {S : Hp} {b : Addr} {l : List Int} (h : S b = some (.tup (l.map V.int))) : ∀ {as : List Addr} {ll : List (List Int)} {i : Nat}, PT2 S as ll → PT2 S (as.set i b) (ll.set i l)
  | _, _, i, .nil => by simpa using (Paired.nil)
  | _, _, 0, .cons _ r => .cons h r
  | _, _, i + 1, .cons x r => .cons x (PT2.put h r)
theorem PT2.snoc {S : Hp} {b : Addr} {l : List Int} {as : List Addr} {ll : List (List Int)} (r : PT2 S as ll) (h : S b = some (.tup (l.map V.int))) : PT2 S (as ++ [b]) (ll ++ [l]) := Paired.snoc r h
theorem PT2.mono {S S' : Hp} {as : List Addr} {ll : List (List Int)} (e : ∀ b xs, S b = some (.tup xs) → S' b = some (.tup xs)) (r : PT2 S as ll) : PT2 S' as ll := Paired.imp' (fun a l h => e _ _ h) r
theorem PT2.th {K : PySem.W.Frag} {S : Hp} {n : Nat} {as : List Addr} {ll : List (List Int)} (r : PT2 S as ll) : ∀ y ∈ as.map V.ref, Th K S (n + 1) y := by
  intro y hy
  obtain ⟨a, ha, rfl⟩ := List.mem_map.mp hy
  obtain ⟨i, hi⟩ := List.mem_iff_getElem?.mp ha
  obtain ⟨l, _, h⟩ := r.get hi
  refine Th.tup h fun z hz => ?_
  obtain ⟨k, _, rfl⟩ := List.mem_map.mp hz
  exact Th.int k
theorem PT2.arr {S : Hp} {m : Int} {as : List Addr} {ll : List (List Int)} (r : PT2 S as ll) (h : ∀ l ∈ ll, ArrL m l) {i : Nat} {y : V} (hy : (as.map V.ref)[i]? = some y) : isArr S m y := by
  rw [List.getElem?_map] at hy
  cases e : as[i]? with
  | none => rw [e] at hy; cases hy
  | some a =>
    rw [e] at hy
    cases hy
    obtain ⟨l, hl, ha⟩ := r.get e
    obtain ⟨p, q, rfl, b⟩ := h l (List.mem_of_getElem? hl)
    exact ⟨a, p, q, rfl, ha, b⟩
abbrev Ar := List (Nat × Nat)
def Inside (m : Nat) (A : Ar) : Prop := ∀ a ∈ A, a.1 < m ∧ a.2 < m
def arL (a : Nat × Nat) : List Int := [(a.1 : Int), (a.2 : Int)]
/-- of arrows, the i-th one -/
theorem TT.arrow {H : Hp} {as : List Addr} {A : Ar} (h : PT2 H as (A.map arL)) {i : Nat} {x : V} (hx : (as.map V.ref)[i]? = some x) : ∃ (c : Addr) (a : Nat × Nat), x = .ref c ∧ A[i]? = some a ∧ H c = some (.tup [.int (a.1 : Int), .int (a.2 : Int)]) := by
  rw [List.getElem?_map] at hx
  cases e : as[i]? with
  | none => rw [e] at hx; cases hx
  | some c =>
    rw [e] at hx
    cases hx
    obtain ⟨l, hl, hc⟩ := h.get e
    rw [List.getElem?_map] at hl
    cases e2 : A[i]? with
    | none => rw [e2] at hl; cases hl
    | some a =>
      rw [e2] at hl
      cases hl
      exact ⟨c, a, rfl, rfl, hc⟩
/-- a Web's attributes, in the order in which they are stored -/
def wf (m : Int) (y : V) : List (Str × V) := [("many", V.int m), ("arrows", y)]
structure WebC (K : PySem.W.Frag) (mg : Str → Option Value) (C : Addr) : Prop where
  cl : Cls K C
  nM : NoAttr K C "many"
  nA : NoAttr K C "arrows"
  mgC : mg "Web" = some (.ref C)
  mp : ∃ t, mg "MOST_PLACES" = some (.int 8 t)
  ma : ∃ t, mg "MOST_ARROWS" = some (.int 12 t)
theorem isArr.ext {H H' : Hp} {m : Int} {x : V} (e : Ext H H') (h : isArr H m x) : isArr H' m x := by
  obtain ⟨a, p, q, ex, ha, r⟩ := h
  exact ⟨a, p, q, ex, e _ _ ha, r⟩
/-- a Web stands at p, of so many places, with the arrows at b -/
def WebAt (C : Addr) (H : Hp) (p : Addr) (m : Int) (b : Addr) : Prop := ∃ dx, H p = some (.ins C dx (wf m (.ref b)))
theorem wf_many (m : Int) (y : V) : (wf m y).lookup ("many" : Str) = some (.int m) := by rfl
theorem wf_arrows (m : Int) (y : V) : (wf m y).lookup ("arrows" : Str) = some y := by rfl
/-- arrows of m places stand at b -/
def AT (H : Hp) (m : Int) (b : Addr) (ll : List (List Int)) : Prop := TT H b ll ∧ ll.length ≤ 12 ∧ ∀ l ∈ ll, ArrL m l
theorem AT.ext {H H' : Hp} {m : Int} {b : Addr} {ll : List (List Int)} (e : Ext H H') (h : AT H m b ll) : AT H' m b ll := ⟨h.1.ext e, h.2⟩
theorem AT.th {K : PySem.W.Frag} {H : Hp} {m : Int} {b : Addr} {ll : List (List Int)} (h : AT H m b ll) : Th K H 2 (.ref b) := by
  obtain ⟨⟨as, hb, pt⟩, _⟩ := h
  exact Th.tup hb (PT2.th pt)
theorem AT.arr {H : Hp} {m : Int} {b : Addr} {ll : List (List Int)} (h : AT H m b ll) {xs : List V} (hb : H b = some (.tup xs)) : xs.length ≤ 12 ∧ ∀ z ∈ xs, isArr H m z := by
  obtain ⟨⟨as, hb', pt⟩, hl, ar⟩ := h
  rw [hb] at hb'
  cases hb'
  refine ⟨by rw [List.length_map, PT2.len pt]; exact hl, fun z hz => ?_⟩
  obtain ⟨i, hi⟩ := List.mem_iff_getElem?.mp hz
  exact PT2.arr pt ar hi
theorem WebAt.ext {C p b : Addr} {m : Int} {H H' : Hp} (e : Ext H H') (h : WebAt C H p m b) : WebAt C H' p m b := h.imp fun _ h => e _ _ h
def spWebR (CW : Addr) : Sp := fun vs H Q _ => ∃ (p dx b : Addr) (m : Int) (ll : List (List Int)), vs = [.ref p, .int m, .ref b] ∧ H p = some (.ins CW dx []) ∧ 1 ≤ m ∧ m ≤ 8 ∧ AT H m b ll ∧
  ∀ H' : Hp, H' p = some (.ins CW dx (wf m (.ref b))) → (∀ c o, c ≠ p → H c = some o → H' c = some o) → Q .non H'
theorem mk_webR {CW : Addr} {H : Hp} {m : Int} {b : Addr} {ll : List (List Int)} {Q : Addr → Hp → Prop} (h1 : 1 ≤ m) (h8 : m ≤ 8) (at' : AT H m b ll) (k : ∀ (o : Addr) (H' : Hp), WebAt CW H' o m b → Ext H H' → Q o H') :
    ∀ x dx, H x = none → H dx = none → dx ≠ x → spWebR CW (.ref x :: ([.int m, .ref b] ++ [])) (upd (upd H dx (.own x)) x (.ins CW dx [])) (fun v H2 => v = .non ∧ Q x H2) E0 := by
  intro x dx nx ndx ne
  have e1 : Ext H (upd (upd H dx (.own x)) x (.ins CW dx [])) := (Ext.upd ndx).trans (Ext.upd (by rw [upd_ne ne.symm]; exact nx))
  exact ⟨x, dx, b, m, ll, rfl, upd_same, h1, h8, at'.ext e1, fun H' hw kp => ⟨rfl, k x H' ⟨dx, hw⟩ fun c u hc => kp c u (ne_of_none hc nx) (e1 _ _ hc)⟩⟩
section
variable {P : Program} {w : World} {K : PySem.W.Frag} {mg : Str → Option Value} {base : Heap}
theorem scAny : FnScope ["purse", "some"] ["purse", "some"] (defScope sAny) := ⟨rfl, rfl, rfl, by decide +kernel, rfl, by decide +kernel, by decide +kernel⟩
theorem ok_any {f : Addr} {fd : FuncData} (F : L2.Fun K "_law_one" "_law_one" sAny f fd) (T : Gb mg) (cD : Cal P w K mg base 1 "_law_part" spDraw []) : FnOk P w K mg base CX0 2 f fd ["purse", "some"] spAny := by
  refine F.ok scAny (fun vs H Q E h => ?_) (fun cdv A outer s H vs Q E hr h => ?_)
  · obtain ⟨a, l, xs, rfl, _⟩ := h
    rfl
  · obtain ⟨a, l, xs, rfl, pot, nl, hl, ne, len, k⟩ := h
    refine ⟨_, pss_one (ps_ret (pe_ix ix_list (pv 1) (C8.pe_c cD hr (by decide) (by rfl) (pa_cons (pv 0) (pa_cons (pe_callB call_len_seq (by rfl) T.len PySem.boot_len (pa_cons (pv 1) pa_nil)) pa_nil))) (fun _ _ => rfl))), ?_⟩
    have pos : 0 < xs.length := List.length_pos_iff.mpr ne
    refine ⟨_, rfl, _, rfl, _, rfl, l, xs, rfl, .inl (SqL.of hl), a, _, rfl, pot, by omega, by omega, fun r H' h0 hlt go => ?_⟩
    have lt : r.toNat < xs.length := by omega
    refine ⟨l, xs, r, xs[r.toNat], rfl, rfl, SqL.of (go.2 _ _ nl hl), at_of (j := r.toNat) (by omega) (List.getElem?_eq_getElem lt), ?_⟩
    exact k _ _ (List.getElem_mem lt) go
theorem scWebI : FnScope ["self", "many", "arrows", "at", "arrow"] ["self", "many", "arrows"] (defScope sWebI) := ⟨rfl, rfl, rfl, by decide +kernel, rfl, by decide +kernel, by decide +kernel⟩
theorem ok_webR {f CW : Addr} {fd : FuncData} (F : L2.Fun K "__init__" "Web.__init__" sWebI f fd) (T : Gb mg) (W : WebC K mg CW) (cN : Cal P w K mg base 2 "is_number" (spNumber K) []) (cA : Cal P w K mg base 3 "is_arrow" (spArrow K) []) :
    FnOk P w K mg base CX0 4 f fd ["self", "many", "arrows"] (spWebR CW) := by
  obtain ⟨t8, h8⟩ := W.mp
  obtain ⟨t12, h12⟩ := W.ma
  refine F.ok scWebI (fun vs H Q E h => ?_) (fun cdv A outer s H vs Q E hr h => ?_)
  · obtain ⟨p, dx, b, m, ll, rfl, _⟩ := h
    rfl
  · obtain ⟨p, dx, b, m, ll, rfl, hp, hm1, hm8, att, k⟩ := h
    obtain ⟨as, hb, pt⟩ := id att.1
    obtain ⟨hl, az⟩ := att.arr hb
    have hnum : numV 8 (.int m) = true := numV_true.mpr ⟨m, rfl, by omega, hm8⟩
    refine ⟨_, pss_cons (ps_if (PW.pt (pw_or (pt_not (pt_val (C8.pe_c cN hr (by decide) (by rfl) (pa_cons (pe_glob (v := .int 8) rfl h8 ⟨_, rfl⟩) (pa_cons (pv 1) pa_nil))))) (pw_or1 (pt_cmpR op_eq (pv 1) pe_int (nomark _))))) (pss_one ps_never) pss_nil)
      (pss_cons (ps_if (PW.pt (pw_or (pt_not (pt_val (pe_callB call_isi (by rfl) T.isi (by decide +kernel) (pa_cons (pv 2) (pa_cons (pe_bltn (v := .ty "tuple") (by rfl) T.tup (by decide +kernel) rfl) pa_nil)))))
          (pw_or1 (pt_cmpR op_gt (pe_callB call_len_seq (by rfl) T.len PySem.boot_len (pa_cons (pv 2) pa_nil)) (pe_glob (v := .int 12) rfl h12 ⟨_, rfl⟩) (nomark _))))) (pss_one ps_never) pss_nil)
      (pss_cons (ps_for PassesOwn.never rfl (pi_en (by rfl) T.enum (pa_cons (pv 2) pa_nil)) (pg_tup rfl (pgs_cons (pg_name (i := 3) scWebI.nd rfl (Or.inl rfl)) (pgs_cons (pg_name (i := 4) scWebI.nd rfl (Or.inl rfl)) pgs_nil)))
        (pss_one (ps_if (pt_not (pt_val (C8.pe_c cA hr (by decide) (by rfl) (pa_cons (pv 1) (pa_cons (pv 4) pa_nil))))) (pss_one ps_never) pss_nil)))
      (pss_cons (ps_fld (pv 0) (pv 1) rfl) (pss_one (ps_fld (pv 0) (pv 2) rfl))))), ?_⟩
    refine ⟨_, rfl, 8, .int m, rfl, Th.int m, _, rfl, ?_⟩
    rw [hnum]
    refine iteF ⟨_, rfl, rfl, _, rfl, ?_⟩
    have hm0 : decide (V.int m = V.int 0) = false := decide_eq_false fun q => by injection q with q; omega
    rw [hm0]
    refine iteF ?_
    refine ⟨_, rfl, _, .ty "tuple", .type "tuple", .type "tuple", true, rfl, .ty _, .base (.tup hb), kit_ty (by decide +kernel), _, rfl, ?_⟩
    refine iteF ⟨_, rfl, b, _, rfl, .inr (SqT.of hb), _, _, rfl, rfl, _, rfl, ?_⟩
    have h12' : decide ((12 : Int) < ((as.map V.ref).length : Int)) = false := decide_eq_false (by omega)
    rw [h12']
    refine iteF ?_
    refine ⟨_, rfl, b, _, rfl, hb, for_en (a := b) (xs := as.map V.ref) (fun i σ' H' => (∃ u v, σ' = [some (.ref p), some (.int m), some (.ref b), u, v]) ∧ Ext H H') ⟨⟨_, _, rfl⟩, Ext.rfl'⟩ (fun i σ' H' h => h.2 _ _ hb) ?_ ?_⟩
    · rintro i x σ' H' q hx ⟨⟨u, v, rfl⟩, ex⟩ nq
      have e2 : Ext H (upd H' q (.tup [.int (i : Nat), x])) := ex.trans (Ext.upd nq)
      have hxm := List.mem_of_getElem? hx
      refine ⟨q, _, rfl, SqT.of upd_same, rfl, _, _, rfl, _, _, rfl, rfl, ?_⟩
      refine ⟨_, rfl, _, rfl, m, x, rfl, (PT2.th (n := 0) pt x hxm).ext e2, fun b' H2 hb' e3 => ?_⟩
      have z : b' = true := hb'.mpr ((az x hxm).ext e2)
      subst z
      exact ⟨_, rfl, iteF ⟨⟨_, _, rfl⟩, e2.trans e3⟩⟩
    · rintro σ' H2 ⟨⟨u, v, rfl⟩, e2⟩
      refine ⟨_, rfl, _, rfl, p, CW, dx, [], rfl, e2 _ _ hp, W.cl, W.nM, (by show 0 < 1000; decide), _, rfl, _, rfl, p, CW, dx, _, rfl, upd_same, W.cl, W.nA, (by show 1 < 1000; decide), ?_⟩
      refine k _ ?_ (fun c o nc e => ?_)
      · rw [upd_same]
        rfl
      · rw [upd_ne nc, upd_ne nc]
        exact e2 _ _ e
end
end F20

set_option Elab.async false
set_option linter.all false
set_option maxRecDepth 100000
set_option maxHeartbeats 4000000
namespace F20
open PySem L2
abbrev sWE : Stmt := inClass (top 4) 0
abbrev sRow : Stmt := top 14
abbrev sEul : Stmt := top 15
abbrev sForm : Stmt := top 16
section
open PySem.Spec PyProof.Rows
structure ExIs (K : PySem.W.Frag) (C : Addr) : Prop where
  cls : (PySem.W.clsIn K C).isSome = true
  ga : PySem.W.findIn K (.ref C) "__getattribute__" = some (some (.builtin "BaseException.__getattribute__"))
  gt : PySem.W.findIn K (.ref C) "__getattr__" = some none
  sb : PySem.W.subIn K (.ref C) (.type "BaseException") = some true
  ha : PySem.W.findIn K (.ref C) "__class__" = some (some (.builtin "object.__class__"))
  hn : PySem.W.specialIn K (.builtin "object.__class__") "__get__" = some (some (.builtin "getset_descriptor.__get__"))
  ht : PySem.W.takesIn K (.builtin "object.__class__") = some true
  hm : PySem.W.mroIn K C (.type "object") = some true
variable {X : Cx} {pins : List (Addr × Obj)} {σ : L2.St} {H : Hp} {s : Shared} {a C : Addr} {fs : List (Str × V)}
/-- an exception made and kept -/
def tExv (C : Addr) (sp : Sp) (t : TA) : TE := fun σ H Q => t σ H fun vs H1 => vs.length ≤ 1000 ∧ ∀ a, H1 a = none → sp (.ref a :: vs) (upd H1 a (exo a C none)) (fun v H2 => v = .non ∧ Q (.ref a) H2) E0
variable {CX : CXT} {x : Str} {fI : Addr} {k : Nat} {fd : FuncData} {ps : List Str} {sp : Sp} {e : Expr} {es : List Expr} {ta : TA} {p pos : Pos}
theorem run_exv (T : OexC X.K C) (hi : PySem.W.findIn X.K (.ref C) "__init__" = some (some (.ref fI))) (ht : PySem.W.typeIn X.K (.ref fI) = some (.type "function"))
    (G : FnOk X.prog X.w X.K X.mg X.base CX k fI fd ps sp) (hr : Room (k + 1) X.A) (hb : Binds X.K fd ps []) (hx : Passes CX X E0) {vs : List V} {us : List Value} {H1 : Hp} {s1 : Shared} {Q : VK} (I1 : Inv X pins σ H1 s1) (r1 : Vals vs us) (hz : vs.length ≤ 1000)
    (q1 : ∀ a, H1 a = none → sp (.ref a :: vs) (upd H1 a (exo a C none)) (fun v H2 => v = .non ∧ Q (.ref a) H2) E0) : wpAny (model X.prog X.w) X.A (call (.ref C) us) (EP X pins σ Q) X.xe s1 := by
  obtain ⟨_, _, _, _, bm, _, _, _, _, _, _, _, _, _, _, inCls, mroOk⟩ := T.cls
  obtain ⟨h0, gs, dr, tk, os⟩ := s1
  let o := h0.objs.size + 1
  let h1 := (h0.push (PySem.W.kdv_tup us)).push (PySem.HandSPX.excO C h0.objs.size)
  have new : H1 o = none := I1.hok.fresh (Nat.le_succ _)
  have old : ∀ b u, h0.get? b = some u → h1.get? b = some u := fun b u q => Heap.get?_push_of_some _ (Heap.get?_push_of_some _ q)
  have there : h1.get? o = some (PySem.HandSPX.excO C h0.objs.size) := by
    show ((h0.push (PySem.W.kdv_tup us)).push (PySem.HandSPX.excO C h0.objs.size)).get? (h0.objs.size + 1) = _
    heap_get
  have J : Inv X pins σ (upd H1 o (exo o C none)) ⟨h1, gs, dr, tk, os⟩ := I1.laid (t' := tk) old (Nat.le_succ _) (exo_ok there)
  have asked := q1 o new
  have rr : Vals (V.ref o :: vs) (Value.ref o :: us) := .cons rfl r1
  have len : (Value.ref o :: us).length = ps.length := rr.length ▸ G.len _ _ _ _ asked
  have bound := hb _ (Value.ref o :: us) J.kIn (by rw [List.append_nil]; exact len)
  rw [List.append_nil] at bound
  have few : us.length ≤ sizeLine := by
    have q : us.length = vs.length := (Paired.length r1).symm
    rw [q, sizeLine_eq]
    omega
  have body := G.run _ X.stack _ _ ⟨Value.ref o :: us, []⟩ _ _ _ E0 (hr.make C us []) (J.env0.make C us []) bound rr asked
  refine wpAny_call (PySem.HandSPX.call_own F.excBase_ValueError (fun Y => PySem.HandSPX.refsVE_contains Y bm mroOk) (I1.kIn _ _ inCls) (PySem.W.looks_findIn I1.kIn hi) (fun self => PySem.W.bind_fn I1.kIn self ht) few (codeAny_mono body ?_))
  intro out s2 z
  match out, z with
  | .error er, z => exact hx pins σ _ _ er s2 J z
  | .ok (.ret u), z =>
    obtain ⟨v, H2, J2, rv, ev, qq⟩ := J.after z
    subst ev
    exact ⟨rv, .ref o, H2, J2, rfl, qq⟩
  | .ok .next, z => exact z.elim
  | .ok .brk, z => exact z.elim
  | .ok .cont, z => exact z.elim
theorem pe_exv0 (T : OexC X.K C) (iC : PySem.W.findIn X.K (.ref C) "__init__" = some (some (.ref fI))) (tI : PySem.W.typeIn X.K (.ref fI) = some (.type "function"))
    (F1 : FnOk X.prog X.w X.K X.mg X.base CX k fI fd ps sp) (hr : Room (k + 1) X.A) (hb : Binds X.K fd ps []) (hx : Passes CX X E0) (hg : Gl X x) (hm : X.mg x = some (.ref C))
    (hdb : (x == ("__debug__" : Str)) = false := by decide) :
    PE X (.Call (.Name x p) [] [] pos) (tExv C sp tNil) := by
  refine ⟨fun pins s σ H Q I h => ?_⟩
  refine wpAny_Call_Name_kw (ld_glob I hg hm ?_ hdb)
  obtain ⟨hz, q1⟩ := h
  exact PySem.W.callWith_K0 I.kIn T.kC (run_exv (us := []) T iC tI F1 hr hb hx I .nil hz q1)
/-- raising an exception without fields that has just been made -/
theorem pmk_v {X : Cx} {e : Expr} {te : TE} (none' : X.ex = []) (he : PE X e te) :
    PMk X e (fun τ H Q => te τ H fun x J => ∃ a C, x = .ref a ∧ J a = some (exo a C none) ∧ X.H_0 a = none ∧ OexC X.K C ∧ Q (.ref C) none (delH J a)) := by
  intro pins s τ H Q I want
  refine thn (he.run pins s τ H _ I want) fun u s1 ⟨v, J, I1, r, a, C, ex, ha, h0, T, z⟩ => ?_
  subst ex
  obtain rfl : u = Value.ref a := r
  obtain ⟨t1, there⟩ := exo_at I1.hok ha
  obtain ⟨G, le, gone, I2⟩ := I1.untrack ha (fr0_none h0) none'
  exact ⟨a, _, _, { s1 with heap := G }, delH J a, .ref C, none, rfl, I2, le, gone, there, ⟨rfl, rfl⟩, rfl, rfl, delH_same, rfl, I1.bare, raises_own T.exC T.tyC, z⟩
theorem ps_raise_v {X : Cx} {pos : Pos} (H0 : Hp) (K0 : PySem.W.Frag) {W : WX} {e : Expr} {te : TE} (tk : Takes X W) (e0 : X.H_0 = H0) (eK : X.K = K0) (he : PE X e te) (calm : X.calm = true := by rfl) (none' : X.ex = [] := by rfl) :
    PS X (.Raise (some e) none pos) (fun _ τ H => te τ H fun x J => ∃ a C, x = .ref a ∧ J a = some (exo a C none) ∧ H0 a = none ∧ OexC K0 C ∧ W (.ref C) none τ (delH J a)) := by
  subst e0 eK
  exact ps_raise calm tk (pmk_v none' he)
end
def spF0 : Sp := fun vs H Q _ => ∃ a : Addr, vs = [.ref a] ∧ Q .non H
/-- an error class without fields: what the top has written of it -/
structure ErrC (K : PySem.W.Frag) (mg : Str → Option Value) (x : Str) (C fI : Addr) : Prop where
  ex : OexC K C
  iC : PySem.W.findIn K (.ref C) "__init__" = some (some (.ref fI))
  tI : PySem.W.typeIn K (.ref fI) = some (.type "function")
  gC : mg x = some (.ref C)
  is : ExIs K C
def rowV : V → Bool
  | .int i => decide (-1000 ≤ i) && decide (i ≤ 1000)
  | _ => false
theorem rowV_true {x : V} : rowV x = true ↔ ∃ i, x = .int i ∧ -1000 ≤ i ∧ i ≤ 1000 := by
  cases x <;> simp [rowV]
def RowL (m : Int) (ns : List Int) : Prop := (ns.length : Int) = m ∧ ∀ n ∈ ns, -1000 ≤ n ∧ n ≤ 1000
def isRow (H : Hp) (m : Int) (x : V) : Prop := ∃ (c : Addr) (ns : List Int), x = .ref c ∧ H c = some (.tup (ns.map V.int)) ∧ RowL m ns
theorem isRow.ext {H H' : Hp} {m : Int} {x : V} (e : Ext H H') (h : isRow H m x) : isRow H' m x := by
  obtain ⟨c, ns, ex, hc, r⟩ := h
  exact ⟨c, ns, ex, e _ _ hc, r⟩
theorem Th.tup_back {K : PySem.W.Frag} {H H1 : Hp} {n : Nat} {b : Addr} {xs : List V} (e : Ext H H1) (h : Th K H n (.ref b)) (h1 : H1 b = some (.tup xs)) : H b = some (.tup xs) := by
  unfold Th at h
  obtain ⟨t, _, _, _, h⟩ := h
  rcases h with ⟨_, h⟩ | ⟨_, b', ys, e', hb, _⟩
  · obtain ⟨o, ho, no⟩ := h b rfl
    rw [e _ _ ho] at h1
    cases h1
    exact absurd rfl (no xs)
  · cases e'
    have := (e _ _ hb).symm.trans h1
    cases this
    exact hb
theorem isRow.back {K : PySem.W.Frag} {H H1 : Hp} {n : Nat} {m : Int} {x : V} (e : Ext H H1) (h : Th K H n x) (h1 : isRow H1 m x) : isRow H m x := by
  obtain ⟨c, ns, rfl, hc, r⟩ := h1
  exact ⟨c, ns, rfl, h.tup_back e hc, r⟩
theorem ints_of : ∀ {xs : List V}, (∀ y ∈ xs, rowV y = true) → ∃ ns : List Int, xs = ns.map V.int ∧ ∀ n ∈ ns, -1000 ≤ n ∧ n ≤ 1000
  | [], _ => ⟨[], rfl, fun n h => by cases h⟩
  | y :: ys, h => by
    obtain ⟨i, rfl, h1, h2⟩ := rowV_true.mp (h y List.mem_cons_self)
    obtain ⟨ns, rfl, h3⟩ := ints_of (xs := ys) fun z hz => h z (List.mem_cons_of_mem _ hz)
    refine ⟨i :: ns, rfl, fun n hn => ?_⟩
    rcases List.mem_cons.mp hn with rfl | hn
    · exact ⟨h1, h2⟩
    · exact h3 n hn
def spRow (K : PySem.W.Frag) (CW : Addr) : Sp := fun vs H Q _ => ∃ (p b : Addr) (m : Int) (x : V), vs = [.ref p, x] ∧ WebAt CW H p m b ∧ m ≤ 8 ∧ Th K H 1 x ∧ ∀ (bb : Bool) (H' : Hp), (bb = true ↔ isRow H m x) → Ext H H' → Q (.bl bb) H'
/-! ### Euler's form -/
def dot (ns ks : List Int) : Int := ((ns.zip ks).map fun p => p.1 * p.2).sum
def along (A : Ar) (ns ks : List Int) : Int := (A.map fun a => ns.getD a.1 0 * ks.getD a.2 0).sum
def eul (A : Ar) (ns ks : List Int) : Int := dot ns ks - along A ns ks
def spEul (K : PySem.W.Frag) (CW CN : Addr) : Sp := fun vs H Q E => ∃ (p b : Addr) (m : Int) (A : Ar) (x y : V), vs = [.ref p, x, y] ∧ WebAt CW H p m b ∧ m ≤ 8 ∧ TT H b (A.map arL) ∧ A.length ≤ 12 ∧ Inside m.toNat A ∧ Th K H 1 x ∧ Th K H 1 y ∧
  (∀ (c d : Addr) (ns ks : List Int) (H' : Hp), x = .ref c → H c = some (.tup (ns.map V.int)) → RowL m ns → y = .ref d → H d = some (.tup (ks.map V.int)) → RowL m ks → Ext H H' → Q (.int (eul A ns ks)) H') ∧
  (∀ H' : Hp, ¬ (isRow H m x ∧ isRow H m y) → Ext H H' → E (.ref CN) none H')
def spForm (K : PySem.W.Frag) (CW CN : Addr) : Sp := fun vs H Q E => ∃ (p : Addr) (x : V), vs = [.ref p, x] ∧ spEul K CW CN [.ref p, x, x] H Q E
structure FormC (mg : Str → Option Value) : Prop where
  mi : ∃ t, mg "MOST_ITEM" = some (.int 1000 t)
  sum : mg "sum" = none
  zip : mg "zip" = none
section
variable {P : Program} {w : World} {K : PySem.W.Frag} {mg : Str → Option Value} {base : Heap}
theorem scWE : FnScope ["self"] ["self"] (defScope sWE) := ⟨rfl, rfl, rfl, by decide +kernel, rfl, by decide +kernel, by decide +kernel⟩
theorem ok_we {f : Addr} {fd : FuncData} (F : L2.Fun K "__init__" "WebError.__init__" sWE f fd) : FnOk P w K mg base CX0 1 f fd ["self"] spF0 := by
  refine F.ok scWE (fun vs H Q E h => ?_) (fun cdv A outer s H vs Q E hr h => ?_)
  · obtain ⟨a, rfl, _⟩ := h
    rfl
  · obtain ⟨a, rfl, k⟩ := h
    exact ⟨_, pss_one ps_pass, k⟩
theorem scRow : FnScope ["web", "thing", "item"] ["web", "thing"] (defScope sRow) := ⟨rfl, rfl, rfl, by decide +kernel, rfl, by decide +kernel, by decide +kernel⟩
theorem ok_row {f CW : Addr} {fd : FuncData} (F : L2.Fun K "is_row" "is_row" sRow f fd) (T : Gb mg) (W : WebC K mg CW) (M : FormC mg) (cI : Cal P w K mg base 1 "is_integer" (spInteger K) []) : FnOk P w K mg base CX0 2 f fd ["web", "thing"] (spRow K CW) := by
  obtain ⟨t1, h1⟩ := M.mi
  refine F.ok scRow (fun vs H Q E h => ?_) (fun cdv A outer s H vs Q E hr h => ?_)
  · obtain ⟨p, b, m, x, rfl, _⟩ := h
    rfl
  · obtain ⟨p, b, m, x, rfl, ⟨dx, hp⟩, hm8, th, k⟩ := h
    unfold Th at th
    obtain ⟨t, ty, ki, kb, kt⟩ := th
    refine ⟨_, pss_cons (ps_if (PW.pt (pw_or (pt_not (pt_val (pe_callB call_isi (by rfl) T.isi (by decide +kernel) (pa_cons (pv 1) (pa_cons (pe_bltn (v := .ty "tuple") (by rfl) T.tup (by decide +kernel) rfl) pa_nil)))))
        (pw_or1 (pt_cmpR op_ne (pe_callB call_len_seq (by rfl) T.len PySem.boot_len (pa_cons (pv 1) pa_nil)) (pe_fld (pv 0) rfl) (nomark _))))) (pss_one (ps_ret pe_bl)) pss_nil)
      (pss_one (ps_ret (pe_callB (cr_all rfl) (by rfl) T.all (by decide +kernel) (pa_cons (pe_lc (own := [("item", 2)]) (g := gName 2) (tt := tYes) rfl scRow.nd (pi_tup (pv 1)) (blkOk_by (N := ["web", "thing", "item"]) (sc := defScope sRow) (by decide +kernel)) (fun _ _ _ _ _ => pg_name (i := 2) scRow.nd rfl (Or.inl rfl)) (fun _ _ _ _ _ => pts_nil)
        (fun _ _ _ _ _ => pe_and (C8.pe_c cI hr (by decide) (by rfl) (pa_cons (pv 2) pa_nil)) (pe_one (pe_chain op_le op_le (pe_un un_neg (pe_glob (v := .int 1000) rfl h1 ⟨_, rfl⟩)) (pv 2) (pe_glob (v := .int 1000) rfl h1 ⟨_, rfl⟩))))) pa_nil)))), ?_⟩
    rcases kt with ⟨kt, nt⟩ | ⟨kt, a, xs, rfl, ha, it⟩
    · refine ⟨_, rfl, x, .ty "tuple", t, .type "tuple", _, rfl, .ty _, ty, kt, _, rfl, ?_⟩
      refine iteT (iteT ?_)
      refine k false H ⟨fun z => Bool.noConfusion z, fun ⟨c, ns, e, hc, _⟩ => by obtain ⟨o, h1, h2⟩ := nt c e; rw [hc] at h1; cases h1; exact absurd rfl (h2 _)⟩ Ext.rfl'
    · refine ⟨_, rfl, _, .ty "tuple", t, .type "tuple", _, rfl, .ty _, ty, kt, _, rfl, ?_⟩
      refine iteF ?_
      refine ⟨_, rfl, a, xs, rfl, .inr (SqT.of ha), _, rfl, p, CW, dx, _, _, rfl, hp, W.cl, W.nM, wf_many _ _, rfl, _, rfl, ?_⟩
      by_cases hl : (xs.length : Int) = m
      · have hl' : (!decide (V.int (xs.length : Int) = V.int m)) = false := by rw [hl]; simp
        rw [hl']
        refine iteF ?_
        refine ⟨_, rfl, a, rfl, ⟨_, SqT.of ha⟩, fun D hD => ?_⟩
        have hda : a ≠ D := ne_of_none ha hD
        refine lc_tup (K := K) (a := a) (xs := xs) (fun i H' => H' = upd H D (.lst (((xs.take i).map rowV).map V.bl))) (by simp) (fun i H' _ e => by subst e; exact SqT.of (by rw [upd_ne hda]; exact ha)) ?_ ?_
        · rintro i y H' hi rfl
          refine ⟨rfl, tyes_in ?_⟩
          have hy : y ∈ xs := List.mem_of_getElem? hi
          have it' : ∀ y ∈ xs, Th K H 0 y := it
          have ty0 : Th K (upd H D (.lst (((xs.take i).map rowV).map V.bl))) 0 y := (it' y hy).ext (Ext.upd hD)
          have fin : ∀ bb : Bool, bb = rowV y → ∃ acc, (upd H D (.lst (((xs.take i).map rowV).map V.bl))) D = some (.lst acc) ∧ acc.length < sizeLine ∧ upd (upd H D (.lst (((xs.take i).map rowV).map V.bl))) D (.lst (acc ++ [.bl bb])) = upd H D (.lst (((xs.take (i + 1)).map rowV).map V.bl)) := by
            rintro bb rfl
            refine ⟨_, upd_same, small1000 (by simp; omega), ?_⟩
            rw [upd_upd, List.take_succ, hi]
            simp
          refine ⟨_, rfl, y, rfl, ty0, _, rfl, ?_⟩
          cases y with
          | int j =>
            refine iteT ⟨1000, rfl, _, rfl, _, _, rfl, rfl, _, rfl, ?_⟩
            by_cases h0 : (-1000 : Int) ≤ j
            · rw [decide_eq_true h0]
              refine iteT ⟨_, _, rfl, rfl, ?_⟩
              refine fin _ ?_
              simp [rowV, h0]
            · rw [decide_eq_false h0]
              refine iteF (fin _ ?_)
              simp [rowV, h0]
          | _ => exact iteF (fin _ rfl)
        · rintro H' rfl
          refine ⟨D, (xs.take xs.length).map rowV, rfl, SqL.of upd_same, ?_⟩
          refine k _ _ ?_ (Ext.upd hD)
          rw [List.take_of_length_le (Nat.le_refl _)]
          constructor
          · intro z
            have z' : ∀ y ∈ xs, rowV y = true := fun y hy => List.all_eq_true.mp z (rowV y) (List.mem_map_of_mem hy)
            obtain ⟨ns, rfl, hn⟩ := ints_of z'
            exact ⟨a, ns, rfl, ha, by rw [List.length_map] at hl; exact hl, hn⟩
          · rintro ⟨c, ns, e, hc, hln, hn⟩
            cases e
            rw [ha] at hc
            cases hc
            refine List.all_eq_true.mpr fun bb hb => ?_
            obtain ⟨y, hy, rfl⟩ := List.mem_map.mp hb
            obtain ⟨n, hnn, rfl⟩ := List.mem_map.mp hy
            exact rowV_true.mpr ⟨n, rfl, (hn n hnn).1, (hn n hnn).2⟩
      · have hl' : (!decide (V.int (xs.length : Int) = V.int m)) = true := by
          have : ¬ (V.int (xs.length : Int) = V.int m) := fun z => hl (by injection z)
          simp [this]
        rw [hl']
        refine iteT ?_
        refine k false H ⟨fun z => Bool.noConfusion z, fun ⟨c, ns, e, hc, r, _⟩ => ?_⟩ Ext.rfl'
        cases e
        rw [ha] at hc
        cases hc
        rw [List.length_map] at hl
        exact absurd r hl
end
end F20

set_option Elab.async false
set_option linter.all false
set_option maxRecDepth 100000
set_option maxHeartbeats 4000000
namespace F20
open PySem L2
theorem lc_zipT {K : PySem.W.Frag} {a b : Addr} {xs ys : List V} {g : TG} {tt : L2.TT} {te : TE} {vs : List Nat} {τ : L2.St} {H1 : Hp} {D : Addr} {Qd : Hp → Prop} (len : xs.length = ys.length) (Pv : Nat → Hp → Prop) (h0 : Pv 0 (upd H1 D (.lst []))) (hq : ∀ i H, Pv i H → SqT K H a xs ∧ SqT K H b ys)
    (hs : ∀ i x y t H, xs[i]? = some x → ys[i]? = some y → Pv i H → H t = none → g (.ref t) (wipe τ vs) (upd H t (.tup [x, y])) fun σ2 H2 => wipe σ2 vs = wipe τ vs ∧ tt σ2 H2 fun c H3 =>
      if c = true then te σ2 H3 fun z H4 => ∃ acc, H4 D = some (.lst acc) ∧ acc.length < sizeLine ∧ Pv (i + 1) (upd H4 D (.lst (acc ++ [z]))) else Pv (i + 1) H3) (hd : ∀ H, Pv xs.length H → Qd H) :
    ∃ W : Nat → Nat → Hp → Prop, (∃ m, W 0 m (upd H1 D (.lst []))) ∧ ∀ i m H, W i m H →
      ((RZ.ItzT K a b).stop i H ∧ Qd H) ∨ ((RZ.ItzT K a b).go i H ∧ ∃ Nx : Hp → Prop, (∀ H', Nx H' → ∃ m', m' < m ∧ W (i + 1) m' H') ∧ ∀ x H', (RZ.ItzT K a b).yld i H x H' → g x (wipe τ vs) H' fun σ2 H2 => wipe σ2 vs = wipe τ vs ∧ tt σ2 H2 fun c H3 =>
        if c = true then te σ2 H3 fun z H4 => ∃ acc, H4 D = some (.lst acc) ∧ acc.length < sizeLine ∧ Nx (upd H4 D (.lst (acc ++ [z]))) else Nx H3) := by
  refine ⟨fun i m H => m + i = xs.length ∧ Pv i H, ⟨xs.length, rfl, h0⟩, ?_⟩
  rintro i m H ⟨em, p⟩
  obtain ⟨qa, qb⟩ := hq i H p
  cases m with
  | zero =>
    have e : i = xs.length := by omega
    subst e
    exact .inl ⟨⟨xs, ys, qa, qb, .inl (Nat.le_refl _)⟩, hd H p⟩
  | succ k =>
    have la : i < xs.length := by omega
    have lb : i < ys.length := by omega
    have ea : xs[i]? = some xs[i] := List.getElem?_eq_getElem la
    have eb : ys[i]? = some ys[i] := List.getElem?_eq_getElem lb
    refine .inr ⟨⟨xs, ys, _, _, qa, qb, ea, eb⟩, Pv (i + 1), fun H' p' => ⟨k, Nat.lt_succ_self k, by omega, p'⟩, fun v H' y => ?_⟩
    obtain ⟨t, x', y', rfl, nt, rfl, f1, f2⟩ := y
    exact hs i x' y' t H (f1 xs qa) (f2 ys qb) p nt
theorem row_at {m : Int} {ns : List Int} (r : RowL m ns) {j : Nat} (h : j < m.toNat) : atI (ns.map V.int) (j : Int) = some (.int (ns.getD j 0)) := by
  have hj : j < ns.length := by
    have := r.1
    omega
  refine atI_nat ?_
  rw [List.getElem?_map, List.getElem?_eq_getElem hj, List.getD_eq_getElem?_getD, List.getElem?_eq_getElem hj]
  rfl
theorem row_bd {m : Int} {ns : List Int} (r : RowL m ns) (j : Nat) : -1000 ≤ ns.getD j 0 ∧ ns.getD j 0 ≤ 1000 := by
  rw [List.getD_eq_getElem?_getD]
  by_cases hj : j < ns.length
  · rw [List.getElem?_eq_getElem hj]
    exact r.2 _ (List.getElem_mem hj)
  · rw [List.getElem?_eq_none (by omega)]
    exact ⟨by decide, by decide⟩
def dotL (ns ks : List Int) : List Int := (ns.zip ks).map fun p => p.1 * p.2
def termA (ns ks : List Int) (a : Nat × Nat) : Int := ns.getD a.1 0 * ks.getD a.2 0
theorem dot_eq (ns ks : List Int) : (dotL ns ks).sum = dot ns ks := rfl
theorem along_eq (A : Ar) (ns ks : List Int) : (A.map (termA ns ks)).sum = along A ns ks := rfl
theorem map_int_get {ns : List Int} {i : Nat} {x : V} (h : (ns.map V.int)[i]? = some x) : ∃ n, ns[i]? = some n ∧ x = .int n := by
  rw [List.getElem?_map] at h
  cases e : ns[i]? with
  | none => rw [e] at h; cases h
  | some n => rw [e] at h; cases h; exact ⟨n, rfl, rfl⟩
theorem dotL_get {ns ks : List Int} {i : Nat} {n k : Int} (h1 : ns[i]? = some n) (h2 : ks[i]? = some k) : (dotL ns ks)[i]? = some (n * k) := by
  unfold dotL
  rw [List.getElem?_map, List.getElem?_zip_eq_some.mpr (show ns[i]? = some (n, k).1 ∧ ks[i]? = some (n, k).2 from ⟨h1, h2⟩)]
  rfl
theorem ext_delH {H H1 : Hp} {a : Addr} {o : HO} (e : Ext H H1) (na : H1 a = none) : Ext H (delH (upd H1 a o) a) := fun b u h => by
  have h1 := e _ _ h
  have ne := ne_of_none h1 na
  unfold delH
  rw [if_neg ne, upd_ne ne]
  exact h1
theorem none_back {H H1 : Hp} {a : Addr} (e : Ext H H1) (na : H1 a = none) : H a = none := by
  cases q : H a with
  | none => rfl
  | some u => rw [e _ _ q] at na; cases na
section
variable {P : Program} {w : World} {K : PySem.W.Frag} {mg : Str → Option Value} {base : Heap}
/-- a raise of a class without fields -/
theorem raise0 {C : Addr} {x : Str} {fI : Addr} (N : ErrC K mg x C fI) {H H1 : Hp} {E : XK} {τ : L2.St} (e : Ext H H1) (k : ∀ H', Ext H H' → E (.ref C) none H') :
    tExv C spF0 tNil τ H1 (fun x J => ∃ a C', x = .ref a ∧ J a = some (exo a C' none) ∧ H a = none ∧ OexC K C' ∧ E (.ref C') none (delH J a)) :=
  ⟨Nat.zero_le _, fun a na => ⟨a, rfl, rfl, a, C, rfl, upd_same, none_back e na, N.ex, k _ (ext_delH e na)⟩⟩
abbrev eulN : List Str := ["web", "one", "other", "along", "begin", "end", "item", "more"]
theorem scEul : FnScope eulN ["web", "one", "other"] (defScope sEul) := ⟨rfl, rfl, rfl, by decide +kernel, rfl, by decide +kernel, by decide +kernel⟩
theorem ok_eul {f fI CW CN : Addr} {fd fdI : FuncData} (F : L2.Fun K "euler" "euler" sEul f fd) (T : Gb mg) (W : WebC K mg CW) (M : FormC mg) (N : ErrC K mg "NoRow" CN fI) (FI : FnOk P w K mg base CX0 1 fI fdI ["self"] spF0) (bI : Binds K fdI ["self"] [])
    (cR : Cal P w K mg base 2 "is_row" (spRow K CW) []) : FnOk P w K mg base (L2.CX P w) 3 f fd ["web", "one", "other"] (spEul K CW CN) := by
  refine F.okX scEul (fun vs H Q E h => ?_) (fun cdv A outer s H vs Q E hr h => ?_)
  · obtain ⟨p, b, m, A, x, y, rfl, _⟩ := h
    rfl
  · obtain ⟨p, b, m, Ars, x, y, rfl, hw, hm8, tt, hL, ins, tx, ty, kQ, kE⟩ := h
    have hr2 : Room 2 _ := hr.mono (by decide)
    refine ⟨_, C8.pss_cut (ps_if (PW.pt (pw_or (pt_not (pt_val (C8.pe_c cR hr (by decide) (by rfl) (pa_cons (pv 0) (pa_cons (pv 1) pa_nil))))) (pw_or1 (pt_not (pt_val (C8.pe_c cR hr (by decide) (by rfl) (pa_cons (pv 0) (pa_cons (pv 2) pa_nil))))))))
        (pss_one (ps_raise_v H K (takes_of rfl rfl rfl rfl) rfl rfl (pe_exv0 N.ex N.iC N.tI FI hr2 bI pass0 (by rfl) N.gC))) pss_nil)
      (pss_cons (ps_set (i := 3) scEul.nd rfl (Or.inl rfl) (pe_callB (cr_sum rfl) (by rfl) M.sum (by decide +kernel) (pa_cons (pe_lc (own := [("begin", 4), ("end", 5)]) (g := gTup K 2 (gCons (gName 4) (gCons (gName 5) gNil))) (tt := tYes) (te := tOp (rI CMul fun i j => .int (i * j)) (tOp (rIxT K) (tVar 1) (tVar 4)) (tOp (rIxT K) (tVar 2) (tVar 5))) rfl scEul.nd (pi_tup (pe_fld (pv 0) rfl)) (blkOk_by (N := eulN) (sc := defScope sEul) (by decide +kernel))
          (fun _ _ _ _ _ => pg_tup rfl (pgs_cons (pg_name (i := 4) scEul.nd rfl (Or.inl rfl)) (pgs_cons (pg_name (i := 5) scEul.nd rfl (Or.inl rfl)) pgs_nil))) (fun _ _ _ _ _ => pts_nil)
          (fun _ _ _ _ _ => pe_op op_mul (pe_ix ix_tup (pv 1) (pv 4) (fun _ _ => rfl)) (pe_ix ix_tup (pv 2) (pv 5) (fun _ _ => rfl)))) pa_nil)))
      (pss_one (ps_ret (pe_op op_sub (pe_callB (cr_sum rfl) (by rfl) M.sum (by decide +kernel) (pa_cons (pe_lc (own := [("item", 6), ("more", 7)]) (g := gTup K 2 (gCons (gName 6) (gCons (gName 7) gNil))) (tt := tYes) rfl scEul.nd (RZ.pi_zipA (by rfl) M.zip (pa_cons (pv 1) (pa_cons (pv 2) pa_nil))) (blkOk_by (N := eulN) (sc := defScope sEul) (by decide +kernel))
          (fun _ _ _ _ _ => pg_tup rfl (pgs_cons (pg_name (i := 6) scEul.nd rfl (Or.inl rfl)) (pgs_cons (pg_name (i := 7) scEul.nd rfl (Or.inl rfl)) pgs_nil))) (fun _ _ _ _ _ => pts_nil)
          (fun _ _ _ _ _ => pe_op op_mul (pv 6) (pv 7))) pa_nil)) (pv 3))))), ?_⟩
    refine ⟨fun σ' H' => σ' = [some (.ref p), some x, some y, Option.none, Option.none, Option.none, Option.none, Option.none] ∧ Ext H H' ∧ isRow H m x ∧ isRow H m y, ?_, ?_⟩
    · refine ⟨_, rfl, _, rfl, p, b, m, x, rfl, hw, hm8, tx, fun b1 H1 hb1 e1 => ⟨_, rfl, ?_⟩⟩
      cases b1 with
      | false => exact iteT (iteT (raise0 N e1 fun H' e => kE H' (fun z => by have := hb1.mpr z.1; cases this) e))
      | true =>
        have r1 := hb1.mp rfl
        refine iteF ⟨_, rfl, _, rfl, p, b, m, y, rfl, hw.ext e1, hm8, ty.ext e1, fun b2 H2 hb2 e2 => ⟨_, rfl, ?_⟩⟩
        cases b2 with
        | false => exact iteT (raise0 N (e1.trans e2) fun H' e => kE H' (fun z => by have := hb2.mpr (z.2.ext e1); cases this) e)
        | true => exact iteF ⟨rfl, e1.trans e2, r1, (hb2.mp rfl).back e1 ty⟩
    · rintro σ' H1 ⟨rfl, e1, ⟨c, ns, rfl, hc, rn⟩, ⟨d, ks, rfl, hd, rk⟩⟩
      obtain ⟨dx, hp⟩ := id hw
      obtain ⟨as, hb, pt⟩ := id tt
      refine ⟨_, rfl, p, CW, dx, _, _, rfl, e1 _ _ hp, W.cl, W.nA, wf_arrows _ _, b, rfl, ⟨_, SqT.of (e1 _ _ hb)⟩, fun D nD => ?_⟩
      refine lc_tup (K := K) (a := b) (xs := as.map V.ref) (fun i H'' => H'' = upd H1 D (.lst (((Ars.map (termA ns ks)).take i).map V.int))) (by simp) (fun i H'' _ e => by rw [e]; exact SqT.of (Ext.upd nD _ _ (e1 _ _ hb))) ?_ ?_
      · rintro i z H'' hz rfl
        obtain ⟨q, a, rfl, ha, hq⟩ := TT.arrow pt hz
        obtain ⟨ia, ib⟩ := ins a (List.mem_of_getElem? ha)
        have up : Ext H (upd H1 D (.lst (((Ars.map (termA ns ks)).take i).map V.int))) := e1.trans (Ext.upd nD)
        refine ⟨q, _, rfl, SqT.of (up _ _ hq), rfl, _, _, rfl, _, _, rfl, rfl, rfl, tyes_in ?_⟩
        obtain ⟨l1, l2⟩ := row_bd rn a.1
        refine ⟨_, rfl, _, rfl, c, _, _, _, rfl, rfl, SqT.of (up _ _ hc), row_at rn ia, _, rfl, _, rfl, d, _, _, _, rfl, rfl, SqT.of (up _ _ hd), row_at rk ib, _, _, rfl, rfl, .inl ⟨by omega, by omega⟩, ?_⟩
        refine ⟨_, upd_same, small1000 (by rw [List.length_map, List.length_take, List.length_map]; omega), ?_⟩
        rw [upd_upd]
        have ha' : (Ars.map (termA ns ks))[i]? = some (termA ns ks a) := by rw [List.getElem?_map, ha]; rfl
        rw [List.take_succ, ha', List.map_append]
        rfl
      · rintro H'' rfl
        have len : (as.map V.ref).length = (Ars.map (termA ns ks)).length := by rw [List.length_map, PT2.len pt, List.length_map, List.length_map]
        rw [len, List.take_of_length_le (Nat.le_refl _)]
        refine ⟨D, _, rfl, SqL.of upd_same, ?_⟩
        have e2 : Ext H (upd H1 D (.lst ((Ars.map (termA ns ks)).map V.int))) := e1.trans (Ext.upd nD)
        generalize upd H1 D (.lst ((Ars.map (termA ns ks)).map V.int)) = H2 at *
        have lnk : (ns.map V.int).length = (ks.map V.int).length := by
          have := rn.1
          have := rk.1
          rw [List.length_map, List.length_map]
          omega
        refine ⟨_, rfl, _, rfl, c, d, _, _, rfl, .inr ⟨SqT.of (e2 _ _ hc), SqT.of (e2 _ _ hd), fun D2 nD2 => ?_⟩⟩
        refine lc_zipT (K := K) (a := c) (b := d) (xs := ns.map V.int) (ys := ks.map V.int) lnk (fun i H' => Ext H2 H' ∧ H' D2 = some (.lst (((dotL ns ks).take i).map V.int))) ⟨Ext.upd nD2, upd_same⟩ (fun i H' q => ⟨SqT.of (q.1 _ _ (e2 _ _ hc)), SqT.of (q.1 _ _ (e2 _ _ hd))⟩) ?_ ?_
        · rintro i u v t H' hu hv ⟨ex, hD2⟩ nt
          obtain ⟨n, hn, rfl⟩ := map_int_get hu
          obtain ⟨k, hk, rfl⟩ := map_int_get hv
          have bn := rn.2 n (List.mem_of_getElem? hn)
          refine ⟨t, _, rfl, SqT.of upd_same, rfl, _, _, rfl, _, _, rfl, rfl, rfl, tyes_in ?_⟩
          refine ⟨_, rfl, _, rfl, _, _, rfl, rfl, .inl ⟨by omega, by omega⟩, ?_⟩
          have hD3 := Ext.upd (o := .tup [.int n, .int k]) nt _ _ hD2
          refine ⟨_, hD3, small1000 (by rw [List.length_map, List.length_take]; have := rn.1; have := (List.getElem?_eq_some_iff.mp hn).1; omega), fun b' o eo => ?_, ?_⟩
          · rw [upd_ne (ne_of_none eo nD2)]
            exact Ext.upd nt _ _ (ex _ _ eo)
          · rw [upd_same, List.take_succ, dotL_get hn hk, List.map_append]
            rfl
        · rintro H' ⟨ex, hD2⟩
          have len2 : (ns.map V.int).length = (dotL ns ks).length := by
            rw [List.length_map, List.length_map] at lnk
            rw [List.length_map]
            unfold dotL
            rw [List.length_map, List.length_zip]
            omega
          rw [len2, List.take_of_length_le (Nat.le_refl _)] at hD2
          refine ⟨D2, _, rfl, SqL.of hD2, _, rfl, _, _, rfl, rfl, ?_⟩
          exact kQ c d ns ks H' rfl hc rn rfl hd rk (e2.trans ex)
theorem scForm : FnScope ["web", "row"] ["web", "row"] (defScope sForm) := ⟨rfl, rfl, rfl, by decide +kernel, rfl, by decide +kernel, by decide +kernel⟩
theorem ok_form {f fE CW CN : Addr} {fd fdE : FuncData} (F : L2.Fun K "form" "form" sForm f fd) (FE : FnOk P w K mg base (L2.CX P w) 3 fE fdE ["web", "one", "other"] (spEul K CW CN)) (mE : mg "euler" = some (.ref fE)) (kE : PySem.W.keepIn K (.ref fE) = true) (bE : Binds K fdE ["web", "one", "other"] []) :
    FnOk P w K mg base (L2.CX P w) 4 f fd ["web", "row"] (spForm K CW CN) := by
  refine F.okX scForm (fun vs H Q E h => ?_) (fun cdv A outer s H vs Q E hr h => ?_)
  · obtain ⟨p, x, rfl, _⟩ := h
    rfl
  · obtain ⟨p, x, rfl, h⟩ := h
    exact ⟨_, pss_one (ps_ret (pe_call FE hr (by rfl) mE kE bE .nil (passes_call (takes_of rfl rfl rfl rfl) (fun _ _ _ _ h => h)) (pa_cons (pv 0) (pa_cons (pv 1) (pa_cons (pv 1) pa_nil))))), _, rfl, _, rfl, _, rfl, h⟩
end
end F20

set_option Elab.async false
set_option linter.all false
set_option maxRecDepth 100000
set_option maxHeartbeats 4000000
namespace F20
open PySem L2
abbrev sPurse : Stmt := top 18
abbrev sMixed : Stmt := top 21
abbrev sAnyW : Stmt := top 22
theorem lst_ne {H : Hp} {f b : Addr} {xs ys : List V} (hf : H f = some (.lst xs)) (hb : H b = some (.tup ys)) : b ≠ f := fun e => by
  rw [e, hf] at hb
  cases hb
theorem Go.tup {a b : Addr} {H H' : Hp} {xs : List V} (p : PotAt H a) (g : Go a H H') (h : H b = some (.tup xs)) : H' b = some (.tup xs) := g.2 _ _ (pot_no p h fun _ z => nomatch z) h
/-- a store at a thing that is new since -/
theorem Go.put {a d : Addr} {H H' : Hp} {o : HO} (p : PotAt H a) (g : Go a H H') (nd : H d = none) : Go a H (upd H' d o) := by
  obtain ⟨c, ns, i, z, s, n, h1, h2⟩ := p
  obtain ⟨ys, h3⟩ := g.cell c _ h1
  obtain ⟨c', ns', i', z', s', n', h4, h5⟩ := g.1
  have ec : c' = c := by
    rw [h3] at h4
    cases h4
    rfl
  subst ec
  have nad : a ≠ d := ne_of_none h1 nd
  have ncd : c' ≠ d := ne_of_none h2 nd
  exact ⟨⟨c', ns', i', z', s', n', by rw [upd_ne nad]; exact h4, by rw [upd_ne ncd]; exact h5⟩, fun b o' nb hb => by rw [upd_ne (ne_of_none hb nd)]; exact g.2 b o' nb hb, fun c xs hc => by rw [upd_ne nad]; exact g.cell c xs hc⟩
/-- arrows in a list that is being made -/
def ArrList (a : Addr) (m : Int) (D : Addr) (k : Nat) (H : Hp) : Prop := D ≠ a ∧ ∃ (as : List Addr) (ll : List (List Int)), H D = some (.lst (as.map V.ref)) ∧ PT2 H as ll ∧ (∀ l ∈ ll, ArrL m l) ∧ as.length = k
theorem ArrList.nil {a : Addr} {m : Int} {D : Addr} {H : Hp} (p : PotAt H a) (nD : H D = none) : ArrList a m D 0 (upd H D (.lst [])) := ⟨(p.ne nD).symm, [], [], upd_same, .nil, (fun l h => by cases h), rfl⟩
theorem ArrList.go {a : Addr} {m : Int} {D : Addr} {k : Nat} {H H' : Hp} (p : PotAt H a) (g : Go a H H') (h : ArrList a m D k H) : ArrList a m D k H' := by
  obtain ⟨nD, as, ll, hD, pt, ar, le⟩ := h
  exact ⟨nD, as, ll, g.2 _ _ nD hD, pt.mono fun b xs z => g.tup p z, ar, le⟩
theorem ArrList.push {a : Addr} {m : Int} {D t : Addr} {k : Nat} {H : Hp} {p q : Int} (h : ArrList a m D k H) (ht : H t = some (.tup [.int p, .int q])) (hp : 0 ≤ p ∧ p < m ∧ 0 ≤ q ∧ q < m) :
    ∃ acc, H D = some (.lst acc) ∧ acc.length = k ∧ ArrList a m D (k + 1) (upd H D (.lst (acc ++ [.ref t]))) := by
  obtain ⟨nD, as, ll, hD, pt, ar, le⟩ := h
  refine ⟨_, hD, by rw [List.length_map, le], nD, as ++ [t], ll ++ [[p, q]], by rw [upd_same, List.map_append]; rfl, ?_, fun l hl => ?_, by rw [List.length_append, le]; rfl⟩
  · exact (PT2.snoc (l := [p, q]) pt ht).mono fun b xs z => by rw [upd_ne (lst_ne hD z)]; exact z
  · rcases List.mem_append.mp hl with z | z
    · exact ar l z
    · rw [List.mem_singleton.mp z]
      exact ⟨p, q, rfl, hp⟩
def spPurse (K : PySem.W.Frag) : Sp := fun vs H Q _ => ∃ (s : Addr) (ns : List Int), vs = [.ref s] ∧ SqL K H s (ns.map V.int) ∧ ns.length ≤ 63 ∧ ∀ (r : Addr) (H' : Hp), Ext H H' → PotAt H' r → Q (.ref r) H'
def spMixed : Sp := fun vs H Q _ => ∃ (a l : Addr) (xs : List V), vs = [.ref a, .ref l] ∧ PotAt H a ∧ l ≠ a ∧ H l = some (.lst xs) ∧ xs.length ≤ 1000 ∧
  ∀ (r : Addr) (ys : List V) (H' : Hp), Go a H H' → H r = none → r ≠ a → H' r = some (.lst ys) → ys.Perm xs → Q (.ref r) H'
def spAnyW : Sp := fun vs H Q _ => ∃ a : Addr, vs = [.ref a] ∧ PotAt H a ∧ ∀ (r b : Addr) (m : Int) (ll : List (List Int)) (H' : Hp), Go a H H' → H' r = some (.tup [.int m, .ref b]) → 1 ≤ m → m ≤ 6 → AT H' m b ll → Q (.ref r) H'
theorem erase_perm {α : Type} : ∀ {l : List α} {i : Nat} {x : α}, l[i]? = some x → (x :: l.eraseIdx i).Perm l
  | [], i, x, h => by simp at h
  | y :: l, 0, x, h => by
    have e : y = x := by simpa using h
    subst e
    exact List.Perm.refl _
  | y :: l, i + 1, x, h => by
    have ih := erase_perm (l := l) (i := i) (x := x) (by simpa using h)
    exact (List.Perm.swap y x _).trans (ih.cons y)
theorem at_arrows {m : Int} {H : Hp} {a D t : Addr} {k : Nat} (h : ArrList a m D k H) (hk : k ≤ 12) (nt : H t = none) {xs : List V} (hx : H D = some (.lst xs)) : ∃ ll, AT (upd H t (.tup xs)) m t ll := by
  obtain ⟨nD, as, ll, hD, pt, ar, le⟩ := h
  rw [hD] at hx
  cases hx
  exact ⟨ll, ⟨as, upd_same, pt.mono fun b xs z => Ext.upd nt _ _ z⟩, by rw [← PT2.len pt, le]; exact hk, ar⟩
/-- a list of the same arrows in another order -/
theorem PT2.of_mem {H : Hp} {m : Int} {as : List Addr} {ll : List (List Int)} (pt : PT2 H as ll) (ar : ∀ l ∈ ll, ArrL m l) : ∀ {ys : List V}, (∀ y ∈ ys, y ∈ as.map V.ref) → ∃ (bs : List Addr) (kk : List (List Int)), ys = bs.map V.ref ∧ PT2 H bs kk ∧ ∀ l ∈ kk, ArrL m l
  | [], _ => ⟨[], [], rfl, .nil, fun l h => by cases h⟩
  | y :: ys, h => by
    obtain ⟨bs, kk, rfl, p, q⟩ := PT2.of_mem pt ar (ys := ys) fun z hz => h z (List.mem_cons_of_mem _ hz)
    obtain ⟨b, hb, rfl⟩ := List.mem_map.mp (h y List.mem_cons_self)
    obtain ⟨i, hi⟩ := List.mem_iff_getElem?.mp hb
    obtain ⟨l, hl, hb'⟩ := pt.get hi
    refine ⟨b :: bs, l :: kk, rfl, .cons hb' p, fun z hz => ?_⟩
    rcases List.mem_cons.mp hz with rfl | hz
    · exact ar _ (List.mem_of_getElem? hl)
    · exact q z hz
section
variable {P : Program} {w : World} {K : PySem.W.Frag} {mg : Str → Option Value} {base : Heap}
theorem scPurse : FnScope ["script", "cell"] ["script"] (defScope sPurse) := ⟨rfl, rfl, rfl, by decide +kernel, rfl, by decide +kernel, by decide +kernel⟩
theorem ok_purse {f : Addr} {fd : FuncData} (F : L2.Fun K "_law_purse" "_law_purse" sPurse f fd) (T : Gb mg) : FnOk P w K mg base CX0 1 f fd ["script"] (spPurse K) := by
  refine F.ok scPurse (fun vs H Q E h => ?_) (fun cdv A outer s H vs Q E hr h => ?_)
  · obtain ⟨a, ns, rfl, _⟩ := h
    rfl
  · obtain ⟨a, ns, rfl, hS, hlen, k⟩ := h
    refine ⟨_, pss_one (ps_ret (pe_lst (pa_cons (pe_lc (own := [("cell", 1)]) (g := gName 1) (tt := tYes) rfl scPurse.nd (pi_list (pe_slice sl_list (pv 0) po_none (po_some pe_int))) (blkOk_by (N := ["script", "cell"]) (sc := defScope sPurse) (by decide +kernel))
        (fun _ _ _ _ _ => pg_name (i := 1) scPurse.nd rfl (Or.inl rfl)) (fun _ _ _ _ _ => pts_nil) (fun _ _ _ _ _ => pe_callB call_abs (by rfl) T.abs (by decide +kernel) (pa_cons (pe_callTy call_int1 (by rfl) T.int (by decide +kernel) (pa_cons (pv 1) pa_nil)) pa_nil)))
      (pa_cons pe_int (pa_cons pe_int (pa_cons (pe_op op_add pe_int (pe_op op_mul pe_int (pe_callB call_len_seq (by rfl) T.len PySem.boot_len (pa_cons (pe_slice sl_list (pv 0) po_none (po_some pe_int)) pa_nil)))) (pa_cons pe_int pa_nil))))))), ?_⟩
    have all : ∀ y ∈ cutV (ns.map V.int) Option.none (some 70), ∃ i, y = V.int i := fun y hy => by
      have hy := List.mem_of_mem_drop (List.mem_of_mem_take hy)
      obtain ⟨i, _, rfl⟩ := List.mem_map.mp hy
      exact ⟨i, rfl⟩
    have cl : (cutV (ns.map V.int) Option.none (some 70)).length ≤ 63 := Nat.le_trans (cutV_length _ _ _) (by rw [List.length_map]; exact hlen)
    refine ⟨_, rfl, 70, rfl, a, _, rfl, hS, fun l nl => ?_⟩
    generalize cutV (ns.map V.int) Option.none (some 70) = xs at *
    refine ⟨l, rfl, ⟨_, SqL.of upd_same⟩, fun D nD => lc_list (K := K) (a := l) (xs := xs) (fun i H' => ∃ cs : List Int, H' = upd (upd H l (.lst xs)) D (.lst (cs.map V.int)) ∧ cs.length = i) ⟨[], rfl, rfl⟩ (fun i H' _ ⟨cs, e, _⟩ => by rw [e]; exact SqL.of (Ext.upd nD _ _ upd_same)) ?_ ?_⟩
    · rintro i y H' hy ⟨cs, rfl, hc⟩
      obtain ⟨z, rfl⟩ := all y (List.mem_of_getElem? hy)
      have hi := (List.getElem?_eq_some_iff.mp hy).1
      refine ⟨rfl, tyes_in ⟨_, rfl, .inl ⟨_, rfl, _, rfl, ?_⟩⟩⟩
      refine ⟨_, upd_same, by rw [List.length_map]; exact small1000 (by omega), cs ++ [if z < 0 then -z else z], ?_, by rw [List.length_append, hc]; rfl⟩
      rw [upd_upd, List.map_append]
      rfl
    · rintro H' ⟨cs, rfl, hc⟩
      have e1 : Ext H (upd (upd H l (.lst xs)) D (.lst (cs.map V.int))) := (Ext.upd nl).trans (Ext.upd nD)
      have gD : (upd (upd H l (.lst xs)) D (.lst (cs.map V.int))) D = some (.lst (cs.map V.int)) := upd_same
      generalize upd (upd H l (.lst xs)) D (.lst (cs.map V.int)) = H1 at *
      refine ⟨_, rfl, 70, rfl, a, _, rfl, hS.ext e1, fun l2 nl2 => ?_⟩
      refine ⟨l2, _, rfl, .inl (SqL.of upd_same), _, _, rfl, rfl, .inl ⟨by decide, by decide⟩, _, _, rfl, rfl, by show 5 ≤ sizeLine; decide, fun r nr => ?_⟩
      have e2 := Ext.upd (o := .lst (cutV (ns.map V.int) Option.none (some 70))) nl2
      exact k r _ ((e1.trans e2).trans (Ext.upd nr)) ⟨D, cs, 0, 0, _, 0, upd_same, Ext.upd nr _ _ (e2 _ _ gD)⟩
theorem scMixed : FnScope ["purse", "some", "left", "found"] ["purse", "some"] (defScope sMixed) := ⟨rfl, rfl, rfl, by decide +kernel, rfl, by decide +kernel, by decide +kernel⟩
theorem ok_mixed {f : Addr} {fd : FuncData} (F : L2.Fun K "_law_mixed" "_law_mixed" sMixed f fd) (T : Gb mg) (cD : Cal P w K mg base 1 "_law_part" spDraw []) : FnOk P w K mg base CX0 2 f fd ["purse", "some"] spMixed := by
  refine F.ok scMixed (fun vs H Q E h => ?_) (fun cdv A outer s H vs Q E hr h => ?_)
  · obtain ⟨a, l, xs, rfl, _⟩ := h
    rfl
  · obtain ⟨a, l, xs, rfl, pot, nl, hl, len, k⟩ := h
    refine ⟨_, pss_cons (ps_par (i := 2) (j := 3) rfl scMixed.nd rfl rfl (by decide) rfl rfl (pa_cons (pe_callTy call_list_of (by rfl) T.list (by decide +kernel) (pa_cons (pv 1) pa_nil)) (pa_cons (pe_lst pa_nil) pa_nil)) (by rfl))
      (pss_cons (ps_while PassesOwn.never (pt_cmpR op_gt (pe_callB call_len_seq (by rfl) T.len PySem.boot_len (pa_cons (pv 2) pa_nil)) pe_int (nomark _))
        (pss_one (ps_expr (pe_bm PySem.F.plainAttrs_list PySem.F.slot_list_append PySem.F.type_list_append mt_append (pv 3) (pa_cons (pe_bm PySem.F.plainAttrs_list PySem.F.slot_list_pop PySem.F.type_list_pop mt_popAt (pv 2)
          (pa_cons (C8.pe_c cD hr (by decide) (by rfl) (pa_cons (pv 0) (pa_cons (pe_callB call_len_seq (by rfl) T.len PySem.boot_len (pa_cons (pv 2) pa_nil)) pa_nil))) pa_nil)) pa_nil)))))
      (pss_one (ps_ret (pv 3)))), ?_⟩
    refine ⟨_, rfl, l, xs, rfl, .inl (SqL.of hl), fun d nd => ⟨Nat.zero_le _, fun g ng => ⟨_, _, rfl, ?_⟩⟩⟩
    have nd0 : H d = none := nd
    have ng0 : H g = none := none_back (Ext.upd nd) ng
    have ndg : d ≠ g := ne_of_none upd_same ng
    have nda : d ≠ a := (pot.ne nd0).symm
    have nga : g ≠ a := (pot.ne ng0).symm
    refine ⟨fun m σ' H' => σ' = [some (.ref a), some (.ref l), some (.ref d), some (.ref g)] ∧ Go a H H' ∧ ∃ ds gs, H' d = some (.lst ds) ∧ H' g = some (.lst gs) ∧ (gs ++ ds).Perm xs ∧ ds.length = m, ⟨xs.length, rfl, ?_, xs, [], ?_, upd_same, by simp, rfl⟩, ?_⟩
    · exact Go.put pot (Go.new pot nd0) ng0
    · rw [upd_ne ndg, upd_same]
    · rintro m σ' H' ⟨rfl, go, ds, gs, hd, hg, pm, rfl⟩
      have hlen := pm.length_eq
      rw [List.length_append] at hlen
      refine ⟨_, rfl, d, ds, rfl, .inl (SqL.of hd), _, _, rfl, rfl, _, rfl, ?_⟩
      refine ite2 (fun z => ?_) (fun z => ?_)
      · have pos : 0 < ds.length := by have := of_decide_eq_true z; omega
        refine ⟨fun σ' H' => ∃ m', m' < ds.length ∧ σ' = [some (.ref a), some (.ref l), some (.ref d), some (.ref g)] ∧ Go a H H' ∧ ∃ ds gs, H' d = some (.lst ds) ∧ H' g = some (.lst gs) ∧ (gs ++ ds).Perm xs ∧ ds.length = m', fun σ' H' q => q, ?_⟩
        refine ⟨_, rfl, .inl ⟨rfl, _, SqL.of hg⟩, _, rfl, .inl ⟨rfl, _, SqL.of hd⟩, _, rfl, _, rfl, d, ds, rfl, .inl (SqL.of hd), ?_⟩
        refine ⟨a, _, rfl, go.1, by omega, by omega, fun r H2 h0 hlt g2 => ?_⟩
        have lt : r.toNat < ds.length := by omega
        have hy : ds[r.toNat]? = some ds[r.toNat] := List.getElem?_eq_getElem lt
        have hd2 := g2.2 _ _ nda hd
        have hg2 := g2.2 _ _ nga hg
        refine ⟨d, ds, r, r.toNat, _, rfl, rfl, hd2, by omega, by omega, ?_, hy, ?_⟩
        · unfold seqIndex?
          have c1 : ¬ r < 0 := by omega
          simp only [c1, if_false]
          rw [if_pos (by simp; omega)]
        generalize ds[r.toNat] = y at *
        have g3 := go.trans g2
        refine ⟨g, gs, y, rfl, rfl, by rw [upd_ne ndg.symm]; exact hg2, small1000 (by omega), ?_⟩
        have el : (ds.eraseIdx r.toNat).length = ds.length - 1 := by rw [List.length_eraseIdx, if_pos lt]
        refine ⟨(ds.eraseIdx r.toNat).length, by omega, rfl, Go.put pot (Go.put pot g3 nd0) ng0, _, _, ?_, upd_same, ?_, rfl⟩
        · rw [upd_ne ndg, upd_same]
        · rw [List.append_assoc]
          exact ((erase_perm hy).append_left gs).trans pm
      · have e0 : ds = [] := by
          have : ¬ (0 : Int) < (ds.length : Int) := fun q => z (decide_eq_true q)
          exact List.length_eq_zero_iff.mp (by omega)
        subst e0
        rw [List.append_nil] at pm
        exact ⟨_, rfl, k g gs H' go ng0 nga hg pm⟩
end
end F20

set_option Elab.async false
set_option linter.all false
set_option maxRecDepth 100000
set_option maxHeartbeats 4000000
set_option pp.maxSteps 60
namespace F20
open PySem L2
abbrev sDeep : Stmt := top 24
abbrev sOdd : Stmt := top 25
abbrev sRowL : Stmt := top 26
abbrev sIsI : Stmt := top 28
abbrev sSummed : Stmt := top 29
def spDeep : Sp := fun vs H Q _ => vs = [.int 38] ∧ ∀ (r q : Addr) (xs : List V) (H' : Hp), Ext H H' → H' r = some (.tup [.ref q]) → H' q = some (.tup xs) → Q (.ref r) H'
/-- nothing that is a row -/
def NoRowV (K : PySem.W.Frag) (S : Hp) (x : V) : Prop := Th K S 1 x ∧ ∀ m, ¬ isRow S m x
def spOddN (K : PySem.W.Frag) : Sp := fun vs H Q _ => ∃ a : Addr, vs = [.ref a] ∧ PotAt H a ∧ ∀ (x : V) (H' : Hp), Go a H H' → NoRowV K (Off a H') x → Q x H'
def spRowL : Sp := fun vs H Q _ => ∃ (a : Addr) (m : Int), vs = [.ref a, .int m] ∧ PotAt H a ∧ 0 ≤ m ∧ m ≤ 8 ∧ ∀ (r : Addr) (ns : List Int) (H' : Hp), Go a H H' → H' r = some (.tup (ns.map V.int)) → RowL m ns → Q (.ref r) H'
def spIsI : Sp := fun vs H Q _ => ∃ i j : Int, vs = [.int i, .int j] ∧ Q (.bl (decide (i = j))) H
def spSummed : Sp := fun vs H Q _ => ∃ (b c d : Addr) (m : Int) (A : Ar) (ns ks : List Int), vs = [.ref b, .ref c, .ref d] ∧ TT H b (A.map arL) ∧ Inside m.toNat A ∧ m ≤ 8 ∧ H c = some (.tup (ns.map V.int)) ∧ H d = some (.tup (ks.map V.int)) ∧ RowL m ns ∧ RowL m ks ∧
  ∀ H' : Hp, Ext H H' → Q (.int (eul A ns ks)) H'
theorem NoRowV.flat {K : PySem.W.Frag} {S : Hp} {x : V} (t : Th K S 1 x) (nr : ∀ a, x ≠ .ref a) : NoRowV K S x := ⟨t, fun m ⟨c, ns, e, _⟩ => nr c e⟩
theorem NoRowV.obj {K : PySem.W.Frag} {S : Hp} {p : Addr} {o : HO} (t : Th K S 1 (.ref p)) (h : S p = some o) (no : ∀ ns : List Int, o ≠ .tup (ns.map V.int)) : NoRowV K S (.ref p) := ⟨t, fun m ⟨c, ns, e, hc, _⟩ => by
  cases e
  rw [h] at hc
  exact no ns (Option.some.inj hc)⟩
theorem no_ints1 {x : V} (hx : ∀ i, x ≠ .int i) (ns : List Int) : HO.tup [x] ≠ .tup (ns.map V.int) := fun z => by
  injection z with z
  match ns, z with
  | [], z => cases z
  | n :: r, z =>
    injection z with z _
    exact hx n z
section
variable {P : Program} {w : World} {K : PySem.W.Frag} {mg : Str → Option Value} {base : Heap}
abbrev anyN : List Str := ["purse", "many", "some", "place", "other", "arrow"]
theorem scAnyW : FnScope anyN ["purse"] (defScope sAnyW) := ⟨rfl, rfl, rfl, by decide +kernel, rfl, by decide +kernel, by decide +kernel⟩
theorem ok_anyW {f : Addr} {fd : FuncData} (F : L2.Fun K "_law_any_web" "_law_any_web" sAnyW f fd) (T : Gb mg) (cD : Cal P w K mg base 1 "_law_part" spDraw []) (cX : Cal P w K mg base 2 "_law_mixed" spMixed []) : FnOk P w K mg base CX0 3 f fd ["purse"] spAnyW := by
  refine F.ok scAnyW (fun vs H Q E h => ?_) (fun cdv A outer s H vs Q E hr h => ?_)
  · obtain ⟨a, rfl, _⟩ := h
    rfl
  · obtain ⟨a, rfl, pot, k⟩ := h
    refine ⟨_, pss_cons (ps_set (i := 1) scAnyW.nd rfl (Or.inr rfl) (pe_op op_add pe_int (C8.pe_c cD hr (by decide) (by rfl) (pa_cons (pv 0) (pa_cons pe_int pa_nil)))))
      (pss_cons (ps_if (pt_cmpR op_eq (C8.pe_c cD hr (by decide) (by rfl) (pa_cons (pv 0) (pa_cons pe_int pa_nil))) pe_int (nomark _))
        (pss_cons (ps_setLc (i := 2) (own := [("arrow", 5)]) (g := gName 5) (tt := tYes) rfl scAnyW.nd rfl rfl (sw_true rfl rfl rfl (by decide +kernel)) (pi_range1 (by rfl) T.rng (pa_cons (C8.pe_c cD hr (by decide) (by rfl) (pa_cons (pv 0) (pa_cons (pe_op op_add (pv 1) pe_int) pa_nil))) pa_nil)) (blkOk_by (N := anyN) (sc := defScope sAnyW) (by decide +kernel))
            (fun _ _ _ _ _ => pg_name (i := 5) scAnyW.nd rfl (Or.inl rfl)) (fun _ _ _ _ _ => pts_nil) (fun _ _ _ _ _ => pe_tup (pa_cons (C8.pe_c cD hr (by decide) (by rfl) (pa_cons (pv 0) (pa_cons (pv 1) pa_nil))) (pa_cons (C8.pe_c cD hr (by decide) (by rfl) (pa_cons (pv 0) (pa_cons (pv 1) pa_nil))) pa_nil))))
          (pss_one (ps_ret (pe_tup (pa_cons (pv 1) (pa_cons (pe_callTy call_tuple_of (by rfl) T.tup (by decide +kernel) (pa_cons (pv 2) pa_nil)) pa_nil)))))) pss_nil)
      (pss_cons (ps_set (i := 2) scAnyW.nd rfl (Or.inl rfl) (pe_lst pa_nil))
      (pss_cons (ps_for PassesOwn.never rfl (pi_range2 (by rfl) T.rng (pa_cons pe_int (pa_cons (pv 1) pa_nil))) (pg_name (i := 3) scAnyW.nd rfl (Or.inl rfl))
        (pss_cons (ps_set (i := 4) scAnyW.nd rfl (Or.inl rfl) (C8.pe_c cD hr (by decide) (by rfl) (pa_cons (pv 0) (pa_cons (pv 3) pa_nil))))
        (pss_one (ps_if (pt_cmpR op_gt (C8.pe_c cD hr (by decide) (by rfl) (pa_cons (pv 0) (pa_cons pe_int pa_nil))) pe_int (nomark _))
          (pss_one (ps_expr (pe_bm PySem.F.plainAttrs_list PySem.F.slot_list_append PySem.F.type_list_append mt_append (pv 2) (pa_cons (pe_ifExp (pt_cmpR op_eq (C8.pe_c cD hr (by decide) (by rfl) (pa_cons (pv 0) (pa_cons pe_int pa_nil))) pe_int (nomark _)) (pe_tup (pa_cons (pv 3) (pa_cons (pv 4) pa_nil))) (pe_tup (pa_cons (pv 4) (pa_cons (pv 3) pa_nil)))) pa_nil)))) pss_nil))))
      (C8.pss_cut (ps_if (pt_cmpR op_eq (C8.pe_c cD hr (by decide) (by rfl) (pa_cons (pv 0) (pa_cons pe_int pa_nil))) pe_int (nomark _))
        (pss_one (ps_expr (pe_bm PySem.F.plainAttrs_list PySem.F.slot_list_append PySem.F.type_list_append mt_append (pv 2) (pa_cons (pe_tup (pa_cons (C8.pe_c cD hr (by decide) (by rfl) (pa_cons (pv 0) (pa_cons (pv 1) pa_nil))) (pa_cons (C8.pe_c cD hr (by decide) (by rfl) (pa_cons (pv 0) (pa_cons (pv 1) pa_nil))) pa_nil))) pa_nil)))) pss_nil)
      (pss_one (ps_ret (pe_tup (pa_cons (pv 1) (pa_cons (pe_callTy call_tuple_of (by rfl) T.tup (by decide +kernel) (pa_cons (C8.pe_c cX hr (by decide) (by rfl) (pa_cons (pv 0) (pa_cons (pv 2) pa_nil))) pa_nil)) pa_nil))))))))), ?_⟩
    refine ⟨_, rfl, a, 6, rfl, pot, by decide, by decide, fun r1 H1 a1 b1 g1 => ⟨_, _, rfl, rfl, ?_⟩⟩
    obtain ⟨m, em⟩ : ∃ m, m = 1 + r1 := ⟨_, rfl⟩
    have hm1 : 1 ≤ m := by omega
    have hm6 : m ≤ 6 := by omega
    show gName 1 (V.int (1 + r1)) _ _ _
    rw [← em]
    refine ⟨_, rfl, a, 3, rfl, g1.1, by decide, by decide, fun r2 H2 a2 b2 g2 => ⟨rfl, _, rfl, ?_⟩⟩
    have go2 := g1.trans g2
    -- the arrows as a tuple
    have last : ∀ (D t : Addr) (xs : List V) (j : Nat) (H3 : Hp), Go a H H3 → ArrList a m D j H3 → j ≤ 12 → H3 D = some (.lst xs) → H3 t = Option.none → ∀ u, (upd H3 t (.tup xs)) u = Option.none → Q (.ref u) (upd (upd H3 t (.tup xs)) u (.tup [.int m, .ref t])) := by
      intro D t xs j H3 go al hj hx nt u nu
      obtain ⟨ll, at'⟩ := at_arrows al hj nt hx
      have g4 := (Go.new (o := .tup xs) go.1 nt)
      have g5 := Go.new (o := .tup [.int m, .ref t]) g4.1 nu
      exact k u t m ll _ (go.trans (g4.trans g5)) upd_same hm1 hm6 (at'.ext (Ext.upd nu))
    refine ite2 (fun _ => ?_) (fun _ => ?_)
    · refine ⟨_, rfl, _, rfl, _, _, rfl, rfl, a, m + 2, rfl, go2.1, by omega, by omega, fun r3 H3 a3 b3 g3 => ?_⟩
      refine ⟨r3, rfl, by omega, by omega, fun D nD => ?_⟩
      have go3 := go2.trans g3
      refine lc_range (lo := 0) (n := r3.toNat) (fun i H' => Go a H3 H' ∧ ArrList a m D i H') ⟨Go.new go3.1 nD, ArrList.nil go3.1 nD⟩ ?_ ?_
      · rintro i H' hi ⟨go, al⟩
        refine ⟨rfl, tyes_in ?_⟩
        refine ⟨_, rfl, _, rfl, a, m, rfl, go.1, by omega, by omega, fun p H4 p0 pm g4 => ?_⟩
        refine ⟨_, rfl, _, rfl, a, m, rfl, g4.1, by omega, by omega, fun q H5 q0 qm g5 => ?_⟩
        refine ⟨by show 2 ≤ sizeLine; decide, fun t nt => ?_⟩
        have g6 := Go.new (o := .tup [.int p, .int q]) g5.1 nt
        have al' := ((al.go go.1 g4).go g4.1 g5).go g5.1 g6
        obtain ⟨acc, e1, e2, e3⟩ := al'.push (t := t) upd_same ⟨p0, pm, q0, qm⟩
        refine ⟨acc, e1, small1000 (by omega), Go.put go3.1 (go.trans (g4.trans (g5.trans g6))) nD, e3⟩
      · rintro H' ⟨go, al⟩
        obtain ⟨nDa, as, ll, hD, pt, ar, le⟩ := id al
        refine ⟨_, rfl, _, rfl, D, _, rfl, .inl ⟨SqL.of hD, fun t nt => ⟨by show 2 ≤ sizeLine; decide, fun u nu => ?_⟩⟩⟩
        exact last D t _ _ H' (go3.trans go) al (by omega) hD nt u nu
    · refine ⟨Nat.zero_le _, fun D nD => ?_⟩
      refine ⟨_, rfl, 1, m, rfl, ⟨by decide, by decide, by omega, by omega⟩, for_range (lo := 1) (n := (m - 1).toNat) (fun i σ' H' => (∃ v3 v4 : Option V, σ' = [some (.ref a), some (.int m), some (.ref D), v3, v4, Option.none]) ∧ Go a H2 H' ∧ ∃ j, j ≤ i ∧ ArrList a m D j H') ?_ ?_ ?_⟩
      · exact ⟨⟨_, _, rfl⟩, Go.new go2.1 nD, 0, Nat.le_refl _, ArrList.nil go2.1 nD⟩
      · rintro i σ' H' hi ⟨⟨v3, v4, rfl⟩, go, j, hj, al⟩
        refine ⟨_, rfl, _, rfl, a, 1 + (i : Int), rfl, go.1, by omega, by omega, fun r4 H4 a4 b4 g4 => ?_⟩
        refine ⟨_, rfl, a, 6, rfl, g4.1, by decide, by decide, fun r5 H5 a5 b5 g5 => ⟨_, _, rfl, rfl, _, rfl, ?_⟩⟩
        have al5 := (al.go go.1 g4).go g4.1 g5
        have go5 := go.trans (g4.trans g5)
        refine ite2 (fun _ => ?_) (fun _ => ?_)
        · obtain ⟨nDa, as, ll, hD, pt, ar, le⟩ := id al5
          refine ⟨_, rfl, .inl ⟨rfl, _, SqL.of hD⟩, _, rfl, a, 2, rfl, go5.1, by decide, by decide, fun r6 H6 a6 b6 g6 => ⟨rfl, _, rfl, ?_⟩⟩
          have al6 := al5.go go5.1 g6
          have go6 := go5.trans g6
          have push : ∀ (p q : Int) (t : Addr), H6 t = Option.none → 0 ≤ p ∧ p < m ∧ 0 ≤ q ∧ q < m → ∃ l xs y, V.ref D = .ref l ∧ [V.ref t] = [y] ∧ (upd H6 t (.tup [.int p, .int q])) l = some (.lst xs) ∧ xs.length < sizeLine ∧
              ((∃ v3 v4 : Option V, [some (.ref a), some (.int m), some (.ref D), some (.int (1 + (i : Int))), some (.int r4), Option.none] = [some (.ref a), some (.int m), some (.ref D), v3, v4, Option.none]) ∧ Go a H2 (upd (upd H6 t (.tup [.int p, .int q])) l (.lst (xs ++ [y]))) ∧ ∃ j, j ≤ i + 1 ∧ ArrList a m D j (upd (upd H6 t (.tup [.int p, .int q])) l (.lst (xs ++ [y])))) := by
            intro p q t nt hb
            have g7 := Go.new (o := .tup [.int p, .int q]) go6.1 nt
            obtain ⟨acc, e1, e2, e3⟩ := (al6.go go6.1 g7).push (t := t) upd_same hb
            exact ⟨D, acc, _, rfl, rfl, e1, small1000 (by omega), ⟨_, _, rfl⟩, Go.put go2.1 (go6.trans g7) nD, j + 1, by omega, e3⟩
          refine ite2 (fun _ => ?_) (fun _ => ?_)
          · exact ⟨_, rfl, _, rfl, by show 2 ≤ sizeLine; decide, fun t nt => push _ _ t nt ⟨by omega, by omega, by omega, by omega⟩⟩
          · exact ⟨_, rfl, _, rfl, by show 2 ≤ sizeLine; decide, fun t nt => push _ _ t nt ⟨by omega, by omega, by omega, by omega⟩⟩
        · exact ⟨⟨_, _, rfl⟩, go5, j, by omega, al5⟩
      · rintro σ' H3 ⟨⟨v3, v4, rfl⟩, go, j, hj, al⟩
        refine ⟨fun σ' H' => σ' = [some (.ref a), some (.int m), some (.ref D), v3, v4, Option.none] ∧ Go a H2 H' ∧ ∃ j, j ≤ 7 ∧ ArrList a m D j H', ?_, ?_⟩
        · refine ⟨_, rfl, a, 4, rfl, go.1, by decide, by decide, fun r4 H4 a4 b4 g4 => ⟨rfl, _, rfl, ?_⟩⟩
          have al4 := al.go go.1 g4
          have go4 := go.trans g4
          refine ite2 (fun _ => ?_) (fun _ => ⟨rfl, go4, j, by omega, al4⟩)
          obtain ⟨nDa, as, ll, hD, pt, ar, le⟩ := id al4
          refine ⟨_, rfl, .inl ⟨rfl, _, SqL.of hD⟩, _, rfl, _, rfl, a, m, rfl, go4.1, by omega, by omega, fun p H5 p0 pm g5 => ?_⟩
          refine ⟨_, rfl, _, rfl, a, m, rfl, g5.1, by omega, by omega, fun q H6 q0 qm g6 => ?_⟩
          refine ⟨by show 2 ≤ sizeLine; decide, fun t nt => ?_⟩
          have g7 := Go.new (o := .tup [.int p, .int q]) g6.1 nt
          obtain ⟨acc, e1, e2, e3⟩ := (((al4.go go4.1 g5).go g5.1 g6).go g6.1 g7).push (t := t) upd_same ⟨p0, pm, q0, qm⟩
          exact ⟨D, acc, _, rfl, rfl, e1, small1000 (by omega), rfl, Go.put go2.1 (go4.trans (g5.trans (g6.trans g7))) nD, j + 1, by omega, e3⟩
        · rintro σ' H4 ⟨rfl, go4, j, hj, al4⟩
          obtain ⟨nDa, as, ll, hD, pt, ar, le⟩ := id al4
          refine ⟨_, rfl, _, rfl, _, rfl, a, D, _, rfl, go4.1, nDa, hD, by rw [List.length_map]; omega, fun r ys H5 g5 nr nra hr5 pm => ?_⟩
          refine ⟨r, ys, rfl, .inl ⟨SqL.of hr5, fun t nt => ⟨by show 2 ≤ sizeLine; decide, fun u nu => ?_⟩⟩⟩
          obtain ⟨bs, kk, rfl, pb, ab⟩ := PT2.of_mem (pt.mono fun b xs z => g5.tup go4.1 z) ar (ys := ys) fun y hy => pm.mem_iff.mp hy
          have le2 := pm.length_eq
          rw [List.length_map, List.length_map] at le2
          exact last r t _ j H5 (go2.trans (go4.trans g5)) ⟨nra, bs, kk, hr5, pb, ab, by omega⟩ (by omega) hr5 nt u nu
theorem scDeep : FnScope ["many", "thing", "again"] ["many"] (defScope sDeep) := ⟨rfl, rfl, rfl, by decide +kernel, rfl, by decide +kernel, by decide +kernel⟩
theorem ok_deep {f : Addr} {fd : FuncData} (F : L2.Fun K "_law_deep" "_law_deep" sDeep f fd) (T : Gb mg) : FnOk P w K mg base CX0 1 f fd ["many"] spDeep := by
  refine F.ok scDeep (fun vs H Q E h => ?_) (fun cdv A outer s H vs Q E hr h => ?_)
  · obtain ⟨rfl, _⟩ := h
    rfl
  · obtain ⟨rfl, k⟩ := h
    refine ⟨_, pss_cons (ps_set (i := 1) scDeep.nd rfl (Or.inl rfl) (pe_tup pa_nil))
      (pss_cons (ps_for PassesOwn.never rfl (pi_range1 (by rfl) T.rng (pa_cons (pv 0) pa_nil)) (pg_name (i := 2) scDeep.nd rfl (Or.inl rfl)) (pss_one (ps_set (i := 1) scDeep.nd rfl (Or.inl rfl) (pe_tup (pa_cons (pv 1) pa_nil)))))
      (pss_one (ps_ret (pv 1)))), ?_⟩
    refine ⟨Nat.zero_le _, fun d nd => ?_⟩
    refine ⟨_, rfl, 38, rfl, by decide, by decide, for_range (lo := 0) (n := 38) (fun i σ' H' => ∃ (d : Addr) (ds : List V) (v : Option V), σ' = [some (.int 38), some (.ref d), v] ∧ Ext H H' ∧ H' d = some (.tup ds) ∧ (0 < i → ∃ q xs, ds = [.ref q] ∧ H' q = some (.tup xs))) ?_ ?_ ?_⟩
    · exact ⟨d, [], Option.none, rfl, Ext.upd nd, upd_same, fun z => absurd z (Nat.lt_irrefl 0)⟩
    · rintro i σ' H' hi ⟨d, ds, v, rfl, ex, hd, _⟩
      refine ⟨_, rfl, by show 1 ≤ sizeLine; decide, fun d1 nd1 => ?_⟩
      exact ⟨d1, [.ref d], _, rfl, ex.trans (Ext.upd nd1), upd_same, fun _ => ⟨d, ds, rfl, Ext.upd nd1 _ _ hd⟩⟩
    · rintro σ' H' ⟨d, ds, v, rfl, ex, hd, q0⟩
      obtain ⟨q, xs, rfl, hq⟩ := q0 (by decide)
      exact ⟨_, rfl, k d q xs H' ex hd hq⟩
theorem scOdd : FnScope ["purse"] ["purse"] (defScope sOdd) := ⟨rfl, rfl, rfl, by decide +kernel, rfl, by decide +kernel, by decide +kernel⟩
theorem ok_oddN {f : Addr} {fd : FuncData} (F : L2.Fun K "_law_odd" "_law_odd" sOdd f fd) (T : Gb mg) (cA : Cal P w K mg base 2 "_law_one" spAny []) (cE : Cal P w K mg base 1 "_law_deep" spDeep []) : FnOk P w K mg base CX0 3 f fd ["purse"] (spOddN K) := by
  refine F.ok scOdd (fun vs H Q E h => ?_) (fun cdv A outer s H vs Q E hr h => ?_)
  · obtain ⟨a, rfl, _⟩ := h
    rfl
  · obtain ⟨a, rfl, pot, k⟩ := h
    refine ⟨_, pss_one (ps_ret (C8.pe_c cA hr (by decide) (by rfl) (pa_cons (pv 0) (pa_cons (pe_lst (pa_cons pe_non (pa_cons pe_bl (pa_cons pe_bl (pa_cons pe_str (pa_cons pe_str (pa_cons (pe_lst pa_nil) (pa_cons pe_dnewK
      (pa_cons (pe_tup (pa_cons pe_non pa_nil)) (pa_cons (pe_tup (pa_cons pe_str pa_nil)) (pa_cons (pe_tup (pa_cons pe_bl pa_nil)) (pa_cons (C8.pe_c cE hr (by decide) (by rfl) (pa_cons pe_int pa_nil)) (pa_cons (pe_op op_pow pe_int pe_int) pa_nil))))))))))))) pa_nil)))), ?_⟩
    refine ⟨_, rfl, Nat.zero_le _, fun p1 n1 p2 n2 => ⟨by show 1 ≤ sizeLine; decide, fun p3 n3 => ⟨by show 1 ≤ sizeLine; decide, fun p4 n4 => ⟨by show 1 ≤ sizeLine; decide, fun p5 n5 => ⟨rfl, fun p6 p7 xs H1 e1 h6 h7 => ?_⟩⟩⟩⟩⟩
    have x2 := Ext.upd (o := .lst []) n1
    have x3 := Ext.upd (o := .dK []) n2
    have x4 := Ext.upd (o := .tup [.non]) n3
    have x5 := Ext.upd (o := .tup [.str "0"]) n4
    have x6 := Ext.upd (o := .tup [.bl true]) n5
    have g1 : H1 p1 = some (.lst []) := e1 _ _ (x6 _ _ (x5 _ _ (x4 _ _ (x3 _ _ upd_same))))
    have g2 : H1 p2 = some (.dK []) := e1 _ _ (x6 _ _ (x5 _ _ (x4 _ _ upd_same)))
    have g3 : H1 p3 = some (.tup [.non]) := e1 _ _ (x6 _ _ (x5 _ _ upd_same))
    have g4 : H1 p4 = some (.tup [.str "0"]) := e1 _ _ (x6 _ _ upd_same)
    have g5 : H1 p5 = some (.tup [.bl true]) := e1 _ _ upd_same
    have ex : Ext H H1 := x2.trans (x3.trans (x4.trans (x5.trans (x6.trans e1))))
    have po := (Go.of_ext pot ex)
    refine ⟨_, _, rfl, rfl, ⟨by decide, by decide, by decide⟩, by show 12 ≤ sizeLine; decide, fun l nl => ?_⟩
    refine ⟨a, l, _, rfl, po.1.upd nl, (po.1.ne nl).symm, upd_same, by simp, by show 12 ≤ 1000; decide, fun x H' hx go9 => ?_⟩
    have goH : Go a H H' := (po.trans (Go.new po.1 nl)).trans go9
    have fin : ∀ (q : Addr) (u : HO), q ≠ a → H1 q = some u → (∀ ps, u ≠ .tbl ps) → (Off a H') q = some u := fun q u nq h nt => off_at nq (go9.2 q u nq (Ext.upd nl q u h)) nt
    have q1 := fin p1 _ (pot.ne n1).symm g1 fun _ z => nomatch z
    have q2 := fin p2 _ (pot_no po.1 g2 fun _ z => nomatch z) g2 fun _ z => nomatch z
    have q3 := fin p3 _ (pot_no po.1 g3 fun _ z => nomatch z) g3 fun _ z => nomatch z
    have q4 := fin p4 _ (pot_no po.1 g4 fun _ z => nomatch z) g4 fun _ z => nomatch z
    have q5 := fin p5 _ (pot_no po.1 g5 fun _ z => nomatch z) g5 fun _ z => nomatch z
    have q6 := fin p6 _ (pot_no po.1 h6 fun _ z => nomatch z) h6 fun _ z => nomatch z
    have q7 := fin p7 _ (pot_no po.1 h7 fun _ z => nomatch z) h7 fun _ z => nomatch z
    refine k x H' goH ?_
    simp only [List.mem_cons, List.not_mem_nil, or_false] at hx
    rcases hx with rfl | rfl | rfl | rfl | rfl | rfl | rfl | rfl | rfl | rfl | rfl | rfl
    · exact NoRowV.flat Th.non fun _ z => nomatch z
    · exact NoRowV.flat (Th.bl _) fun _ z => nomatch z
    · exact NoRowV.flat (Th.bl _) fun _ z => nomatch z
    · exact NoRowV.flat (Th.str _) fun _ z => nomatch z
    · exact NoRowV.flat (Th.str _) fun _ z => nomatch z
    · exact NoRowV.obj (Th.lst q1) q1 fun _ z => nomatch z
    · exact NoRowV.obj (Th.dct q2) q2 fun _ z => nomatch z
    · exact NoRowV.obj (Th.tup q3 fun y hy => by rw [List.mem_singleton.mp hy]; exact Th.non) q3 (no_ints1 fun _ z => nomatch z)
    · exact NoRowV.obj (Th.tup q4 fun y hy => by rw [List.mem_singleton.mp hy]; exact Th.str _) q4 (no_ints1 fun _ z => nomatch z)
    · exact NoRowV.obj (Th.tup q5 fun y hy => by rw [List.mem_singleton.mp hy]; exact Th.bl _) q5 (no_ints1 fun _ z => nomatch z)
    · exact NoRowV.obj (Th.tup q6 fun y hy => by rw [List.mem_singleton.mp hy]; exact Th.tup0 q7) q6 (no_ints1 fun _ z => nomatch z)
    · exact NoRowV.flat (Th.int _) fun _ z => nomatch z
theorem scRowL : FnScope ["purse", "many", "top", "place"] ["purse", "many"] (defScope sRowL) := ⟨rfl, rfl, rfl, by decide +kernel, rfl, by decide +kernel, by decide +kernel⟩
theorem ok_rowL {f : Addr} {fd : FuncData} (F : L2.Fun K "_law_row" "_law_row" sRowL f fd) (T : Gb mg) (cD : Cal P w K mg base 1 "_law_part" spDraw []) (cA : Cal P w K mg base 2 "_law_one" spAny []) : FnOk P w K mg base CX0 3 f fd ["purse", "many"] spRowL := by
  refine F.ok scRowL (fun vs H Q E h => ?_) (fun cdv A outer s H vs Q E hr h => ?_)
  · obtain ⟨a, m, rfl, _⟩ := h
    rfl
  · obtain ⟨a, m, rfl, pot, hm0, hm8, k⟩ := h
    refine ⟨_, pss_cons (ps_set (i := 2) scRowL.nd rfl (Or.inr rfl) (C8.pe_c cA hr (by decide) (by rfl) (pa_cons (pv 0) (pa_cons (pe_lst (pa_cons pe_int (pa_cons pe_int (pa_cons pe_int pa_nil)))) pa_nil))))
      (pss_one (ps_ret (pe_callTy call_tuple_of (by rfl) T.tup (by decide +kernel) (pa_cons (pe_lc (own := [("place", 3)]) (g := gName 3) (tt := tYes) rfl scRowL.nd (pi_range1 (by rfl) T.rng (pa_cons (pv 1) pa_nil)) (blkOk_by (N := ["purse", "many", "top", "place"]) (sc := defScope sRowL) (by decide +kernel))
        (fun _ _ _ _ _ => pg_name (i := 3) scRowL.nd rfl (Or.inl rfl)) (fun _ _ _ _ _ => pts_nil) (fun _ _ _ _ _ => pe_op op_add (pe_op op_sub (C8.pe_c cD hr (by decide) (by rfl) (pa_cons (pv 0) (pa_cons (pe_op op_sub (pe_op op_mul pe_int (pv 2)) pe_int) pa_nil))) (pv 2)) pe_int)) pa_nil)))), ?_⟩
    refine ⟨_, rfl, by show 3 ≤ sizeLine; decide, fun l nl => ?_⟩
    refine ⟨a, l, _, rfl, pot.upd nl, (pot.ne nl).symm, upd_same, by simp, by show 3 ≤ 1000; decide, fun x H1 hx g1 => ?_⟩
    have go1 := (Go.new (o := .lst [.int 2, .int 7, .int 1001]) pot nl).trans g1
    obtain ⟨t, rfl, ht2, ht⟩ : ∃ t, x = .int t ∧ 2 ≤ t ∧ t ≤ 1001 := by
      simp only [List.mem_cons, List.not_mem_nil, or_false] at hx
      rcases hx with rfl | rfl | rfl
      · exact ⟨_, rfl, by decide, by decide⟩
      · exact ⟨_, rfl, by decide, by decide⟩
      · exact ⟨_, rfl, by decide, by decide⟩
    refine ⟨_, rfl, m, rfl, by omega, by omega, fun D nD => ?_⟩
    refine lc_range (lo := 0) (n := m.toNat) (fun i H' => Go a H1 H' ∧ ∃ ns : List Int, H' D = some (.lst (ns.map V.int)) ∧ ns.length = i ∧ ∀ n ∈ ns, -1000 ≤ n ∧ n ≤ 1000) ⟨Go.new go1.1 nD, [], upd_same, rfl, fun n h => by cases h⟩ ?_ ?_
    · rintro i H' hi ⟨go, ns, hD, hl, hn⟩
      refine ⟨rfl, tyes_in ?_⟩
      refine ⟨_, rfl, _, rfl, _, _, rfl, rfl, .inl ⟨by decide, by decide⟩, _, _, rfl, rfl, a, 2 * t - 1, rfl, go.1, by omega, by omega, fun r H2 r0 rt g2 => ?_⟩
      refine ⟨_, rfl, _, _, rfl, rfl, _, _, rfl, rfl, _, g2.2 _ _ ((go1.1.ne nD).symm) hD, by rw [List.length_map]; exact small1000 (by omega), Go.put go1.1 (go.trans g2) nD, ns ++ [r - t + 1], ?_, by rw [List.length_append, hl]; rfl, fun n h => ?_⟩
      · rw [upd_same, List.map_append]
        rfl
      · rcases List.mem_append.mp h with z | z
        · exact hn n z
        · rw [List.mem_singleton.mp z]
          omega
    · rintro H' ⟨go, ns, hD, hl, hn⟩
      refine ⟨D, _, rfl, .inl ⟨SqL.of hD, fun u nu => ?_⟩⟩
      exact k u ns _ (go1.trans (go.trans (Go.new go.1 nu))) upd_same ⟨by omega, hn⟩
theorem scIsI : FnScope ["told", "due"] ["told", "due"] (defScope sIsI) := ⟨rfl, rfl, rfl, by decide +kernel, rfl, by decide +kernel, by decide +kernel⟩
theorem ok_isI {f : Addr} {fd : FuncData} (F : L2.Fun K "_law_is" "_law_is" sIsI f fd) (T : Gb mg) : FnOk P w K mg base CX0 1 f fd ["told", "due"] spIsI := by
  refine F.ok scIsI (fun vs H Q E h => ?_) (fun cdv A outer s H vs Q E hr h => ?_)
  · obtain ⟨i, j, rfl, _⟩ := h
    rfl
  · obtain ⟨i, j, rfl, k⟩ := h
    refine ⟨_, pss_one (ps_ret (pe_and (pe_callB call_isi (by rfl) T.isi (by decide +kernel) (pa_cons (pv 0) (pa_cons (pe_bltn (v := .ty "int") (by rfl) T.int (by decide +kernel) rfl) pa_nil)))
      (pe_and (pe_not (pe_callB call_isi (by rfl) T.isi (by decide +kernel) (pa_cons (pv 0) (pa_cons (pe_bltn (v := .ty "bool") (by rfl) T.bool (by decide +kernel) rfl) pa_nil)))) (pe_one (pe_cmpR op_eq (pv 0) (pv 1) (nomark _)))))), ?_⟩
    refine ⟨_, rfl, _, .ty "int", .type "int", .type "int", true, rfl, .ty _, .base (.int i), kit_ty (by decide +kernel), _, rfl, ?_⟩
    refine iteT ⟨_, rfl, _, .ty "bool", .type "int", .type "bool", false, rfl, .ty _, .base (.int i), kit_ty (by decide +kernel), _, rfl, _, rfl, ?_⟩
    refine iteT ⟨_, rfl, _, rfl, rfl, ?_⟩
    have e : decide (V.int i = V.int j) = decide (i = j) := by
      by_cases h : i = j
      · rw [h]; simp
      · rw [decide_eq_false h, decide_eq_false fun z => h (by injection z)]
    rw [e]
    exact k
abbrev sumN : List Str := ["arrows", "one", "other", "found", "more", "less", "a", "b"]
theorem scSummed : FnScope sumN ["arrows", "one", "other"] (defScope sSummed) := ⟨rfl, rfl, rfl, by decide +kernel, rfl, by decide +kernel, by decide +kernel⟩
theorem take_sum {l : List Int} {i : Nat} {x : Int} (h : l[i]? = some x) : (l.take (i + 1)).sum = (l.take i).sum + x := by
  rw [List.take_succ, h, List.sum_append]
  simp
theorem ok_summed {f : Addr} {fd : FuncData} (F : L2.Fun K "_law_summed" "_law_summed" sSummed f fd) (M : FormC mg) : FnOk P w K mg base CX0 1 f fd ["arrows", "one", "other"] spSummed := by
  refine F.ok scSummed (fun vs H Q E h => ?_) (fun cdv A outer s H vs Q E hr h => ?_)
  · obtain ⟨b, c, d, m, A, ns, ks, rfl, _⟩ := h
    rfl
  · obtain ⟨b, c, d, m, Ars, ns, ks, rfl, ⟨as, hb, pt⟩, ins, hm8, hc, hd, rn, rk, k⟩ := h
    refine ⟨_, pss_cons (ps_set (i := 3) scSummed.nd rfl (Or.inl rfl) pe_int)
      (pss_cons (ps_for PassesOwn.never rfl (RZ.pi_zipA (by rfl) M.zip (pa_cons (pv 1) (pa_cons (pv 2) pa_nil))) (pg_tup rfl (pgs_cons (pg_name (i := 4) scSummed.nd rfl (Or.inl rfl)) (pgs_cons (pg_name (i := 5) scSummed.nd rfl (Or.inl rfl)) pgs_nil)))
        (pss_one (ps_set (i := 3) scSummed.nd rfl (Or.inl rfl) (pe_op op_add (pv 3) (pe_op op_mul (pv 4) (pv 5))))))
      (pss_cons (ps_for PassesOwn.never rfl (pi_tup (pv 0)) (pg_tup rfl (pgs_cons (pg_name (i := 6) scSummed.nd rfl (Or.inl rfl)) (pgs_cons (pg_name (i := 7) scSummed.nd rfl (Or.inl rfl)) pgs_nil)))
        (pss_one (ps_set (i := 3) scSummed.nd rfl (Or.inl rfl) (pe_op op_sub (pv 3) (pe_op op_mul (pe_ix ix_tup (pv 1) (pv 6) (fun _ _ => rfl)) (pe_ix ix_tup (pv 2) (pv 7) (fun _ _ => rfl)))))))
      (pss_one (ps_ret (pv 3))))), ?_⟩
    have lnk : (ns.map V.int).length = (ks.map V.int).length := by
      have := rn.1
      have := rk.1
      rw [List.length_map, List.length_map]
      omega
    have len2 : (ns.map V.int).length = (dotL ns ks).length := by
      rw [List.length_map, List.length_map] at lnk
      rw [List.length_map]
      unfold dotL
      rw [List.length_map, List.length_zip]
      omega
    refine ⟨_, rfl, _, rfl, c, d, _, _, rfl, .inr ⟨SqT.of hc, SqT.of hd, RZ.for_zipT (K := K) (a := c) (b := d) (xs := ns.map V.int) (ys := ks.map V.int) lnk (fun i σ' H' => (∃ v4 v5 : Option V, σ' = [some (.ref b), some (.ref c), some (.ref d), some (.int (((dotL ns ks).take i).sum)), v4, v5, Option.none, Option.none]) ∧ Ext H H') ⟨⟨_, _, rfl⟩, Ext.rfl'⟩ (fun i σ' H' q => ⟨SqT.of (q.2 _ _ hc), SqT.of (q.2 _ _ hd)⟩) ?_ ?_⟩⟩
    · rintro i u v t σ' H' hu hv ⟨⟨v4, v5, rfl⟩, ex⟩ nt
      obtain ⟨n, hn, rfl⟩ := map_int_get hu
      obtain ⟨j, hj, rfl⟩ := map_int_get hv
      have bn := rn.2 n (List.mem_of_getElem? hn)
      refine ⟨t, _, rfl, SqT.of upd_same, rfl, _, _, rfl, _, _, rfl, rfl, ?_⟩
      refine ⟨_, rfl, _, rfl, _, rfl, _, _, rfl, rfl, .inl ⟨by omega, by omega⟩, _, _, rfl, rfl, ⟨some (.int n), some (.int j), ?_⟩, ex.trans (Ext.upd nt)⟩
      rw [take_sum (dotL_get hn hj)]
      rfl
    · rintro σ' H' ⟨⟨v4, v5, rfl⟩, ex⟩
      rw [len2, List.take_of_length_le (Nat.le_refl _)]
      refine ⟨_, rfl, b, rfl, ⟨_, SqT.of (ex _ _ hb)⟩, for_tup (K := K) (a := b) (xs := as.map V.ref) (fun i σ'' H'' => (∃ v6 v7 : Option V, σ'' = [some (.ref b), some (.ref c), some (.ref d), some (.int ((dotL ns ks).sum - ((Ars.map (termA ns ks)).take i).sum)), v4, v5, v6, v7]) ∧ H'' = H') ?_ (fun i σ'' H'' _ q => by rw [q.2]; exact SqT.of (ex _ _ hb)) ?_ ?_⟩
      · refine ⟨⟨Option.none, Option.none, ?_⟩, rfl⟩
        rw [List.take_zero, show ([] : List Int).sum = 0 from rfl, Int.sub_zero]
      · rintro i z σ'' H'' hz ⟨⟨v6, v7, rfl⟩, rfl⟩
        obtain ⟨q, a, rfl, ha, hq⟩ := TT.arrow pt hz
        obtain ⟨ia, ib⟩ := ins a (List.mem_of_getElem? ha)
        obtain ⟨l1, l2⟩ := row_bd rn a.1
        refine ⟨q, _, rfl, SqT.of (ex _ _ hq), rfl, _, _, rfl, _, _, rfl, rfl, ?_⟩
        refine ⟨_, rfl, _, rfl, _, rfl, c, _, _, _, rfl, rfl, SqT.of (ex _ _ hc), row_at rn ia, _, rfl, _, rfl, d, _, _, _, rfl, rfl, SqT.of (ex _ _ hd), row_at rk ib, _, _, rfl, rfl, .inl ⟨by omega, by omega⟩, _, _, rfl, rfl, ⟨some (.int (a.1 : Int)), some (.int (a.2 : Int)), ?_⟩, rfl⟩
        have ha' : (Ars.map (termA ns ks))[i]? = some (termA ns ks a) := by rw [List.getElem?_map, ha]; rfl
        have e : (dotL ns ks).sum - ((Ars.map (termA ns ks)).take (i + 1)).sum = (dotL ns ks).sum - ((Ars.map (termA ns ks)).take i).sum - ns.getD a.1 0 * ks.getD a.2 0 := by
          rw [take_sum ha']
          unfold termA
          omega
        rw [e]
        rfl
      · rintro σ'' H'' ⟨⟨v6, v7, rfl⟩, rfl⟩
        have len : (as.map V.ref).length = (Ars.map (termA ns ks)).length := by rw [List.length_map, PT2.len pt, List.length_map, List.length_map]
        rw [len, List.take_of_length_le (Nat.le_refl _)]
        exact ⟨_, rfl, k H'' ex⟩
end
end F20

set_option Elab.async false
set_option linter.all false
set_option maxRecDepth 100000
set_option maxHeartbeats 4000000
set_option pp.maxSteps 60
namespace F20
open PySem L2
abbrev sNoRow : Stmt := top 27
/-- two tuples put together, whichever object that is -/
theorem cat_any {K : PySem.W.Frag} {H : Hp} {Q : VK} {a b : Addr} {xs ys : List V} (ha : H a = some (.tup xs)) (hb : H b = some (.tup ys)) (len : xs.length + ys.length ≤ 1000) (k : ∀ (p : Addr) (H' : Hp), Ext H H' → H' p = some (.tup (xs ++ ys)) → Q (.ref p) H') : rCatA K (.ref a) (.ref b) H Q :=
  ⟨a, b, xs, ys, rfl, rfl, SqT.of ha, SqT.of hb, Nat.le_trans len (by decide), fun e => by subst e; exact k b H Ext.rfl' hb, fun _ e => by subst e; exact k a H Ext.rfl' (by rw [List.append_nil]; exact ha), fun _ _ p np => k p _ (Ext.upd np) upd_same⟩
theorem sl_any {K : PySem.W.Frag} {H : Hp} {Q : VK} {a : Addr} {xs : List V} {lo hi : Option Int} (ha : H a = some (.tup xs)) (k : ∀ (p : Addr) (H' : Hp), Ext H H' → H' p = some (.tup (cutV xs lo hi)) → Q (.ref p) H') : rSlA K (.ref a) lo hi H Q := by
  refine ⟨a, xs, rfl, SqT.of ha, fun z => k a H Ext.rfl' ?_, fun _ p np => k p _ (Ext.upd np) upd_same⟩
  unfold cutV
  rw [z.1, z.2, List.drop_zero, Nat.sub_zero, List.take_of_length_le (Nat.le_refl _)]
  exact ha
theorem cut_mem {xs : List V} {lo hi : Option Int} {y : V} (h : y ∈ cutV xs lo hi) : y ∈ xs := List.mem_of_mem_drop (List.mem_of_mem_take h)
/-- nothing that is a row of m places -/
def NR (K : PySem.W.Frag) (S : Hp) (m : Int) (x : V) : Prop := Th K S 1 x ∧ ¬ isRow S m x
theorem NR.tup {K : PySem.W.Frag} {S : Hp} {m : Int} {p : Addr} {xs : List V} (h : S p = some (.tup xs)) (it : ∀ y ∈ xs, Th K S 0 y) (no : (xs.length : Int) ≠ m ∨ ∃ y ∈ xs, rowV y = false) : NR K S m (.ref p) := by
  refine ⟨Th.tup h it, fun ⟨c, ns, e, hc, hl, hb⟩ => ?_⟩
  cases e
  rw [h] at hc
  cases hc
  rcases no with no | ⟨y, hy, no⟩
  · rw [List.length_map] at no
    exact no hl
  · obtain ⟨n, hn, rfl⟩ := List.mem_map.mp hy
    rw [rowV_true.mpr ⟨n, rfl, (hb n hn).1, (hb n hn).2⟩] at no
    cases no
theorem NR.obj {K : PySem.W.Frag} {S : Hp} {m : Int} {p : Addr} {o : HO} (t : Th K S 1 (.ref p)) (h : S p = some o) (no : ∀ xs, o ≠ .tup xs) : NR K S m (.ref p) := ⟨t, fun ⟨c, ns, e, hc, _⟩ => by
  cases e
  rw [h] at hc
  exact no _ (Option.some.inj hc)⟩
def spNoRow (K : PySem.W.Frag) : Sp := fun vs H Q _ => ∃ (a c : Addr) (ns : List Int), vs = [.ref a, .ref c] ∧ PotAt H a ∧ H c = some (.tup (ns.map V.int)) ∧ 1 ≤ ns.length ∧ ns.length ≤ 8 ∧ ∀ (x : V) (H' : Hp), Go a H H' → NR K (Off a H') (ns.length : Int) x → Q x H'
section
variable {P : Program} {w : World} {K : PySem.W.Frag} {mg : Str → Option Value} {base : Heap}
theorem scNoRow : FnScope ["purse", "row", "at", "odd", "some"] ["purse", "row"] (defScope sNoRow) := ⟨rfl, rfl, rfl, by decide +kernel, rfl, by decide +kernel, by decide +kernel⟩
theorem off_tup {a q : Addr} {H : Hp} {xs : List V} (p : PotAt H a) (h : H q = some (.tup xs)) : (Off a H) q = some (.tup xs) := off_at (pot_no p h fun _ z => nomatch z) h fun _ z => nomatch z
theorem ok_noRow {f : Addr} {fd : FuncData} (F : L2.Fun K "_law_no_row" "_law_no_row" sNoRow f fd) (T : Gb mg) (cD : Cal P w K mg base 1 "_law_part" spDraw []) (cA : Cal P w K mg base 2 "_law_one" spAny []) (cO : Cal P w K mg base 3 "_law_odd" (spOddN K) []) : FnOk P w K mg base CX0 4 f fd ["purse", "row"] (spNoRow K) := by
  refine F.ok scNoRow (fun vs H Q E h => ?_) (fun cdv A outer s H vs Q E hr h => ?_)
  · obtain ⟨a, c, ns, rfl, _⟩ := h
    rfl
  · obtain ⟨a, c, ns, rfl, pot, hc, hn1, hn8, k⟩ := h
    refine ⟨_, pss_cons (ps_set (i := 2) scNoRow.nd rfl (Or.inl rfl) (C8.pe_c cD hr (by decide) (by rfl) (pa_cons (pv 0) (pa_cons (pe_callB call_len_seq (by rfl) T.len PySem.boot_len (pa_cons (pv 1) pa_nil)) pa_nil))))
      (C8.pss_cut (ps_set (i := 3) scNoRow.nd rfl (Or.inl rfl) (C8.pe_c cA hr (by decide) (by rfl) (pa_cons (pv 0) (pa_cons (pe_lst (pa_cons pe_int (pa_cons (pe_un un_neg pe_int) (pa_cons pe_bl (pa_cons pe_non (pa_cons pe_str (pa_cons (pe_tup (pa_cons pe_int pa_nil)) (pa_cons (pe_op op_pow pe_int pe_int) (pa_cons (pe_lst pa_nil) pa_nil))))))))) pa_nil))))
      (pss_cons (ps_set (i := 4) scNoRow.nd rfl (Or.inl rfl) (pe_lst (pa_cons (pe_op op_catA (pv 1) (pe_tup (pa_cons pe_int pa_nil))) (pa_cons (pe_slice sl_tupA (pv 1) po_none (po_some (pe_un un_neg pe_int))) (pa_cons (pe_callTy call_list_of (by rfl) T.list (by decide +kernel) (pa_cons (pv 1) pa_nil))
        (pa_cons (pe_op op_catA (pe_op op_catA (pe_slice sl_tupA (pv 1) po_none (po_some (pv 2))) (pe_tup (pa_cons (pv 3) pa_nil))) (pe_slice sl_tupA (pv 1) (po_some (pe_op op_add (pv 2) pe_int)) po_none))
        (pa_cons (pe_op op_catA (pe_op op_catA (pe_slice sl_tupA (pv 1) po_none (po_some (pv 2))) (pe_tup (pa_cons (pv 3) pa_nil))) (pe_slice sl_tupA (pv 1) (po_some (pe_op op_add (pv 2) pe_int)) po_none)) pa_nil)))))))
      (pss_one (ps_ret (C8.pe_c cA hr (by decide) (by rfl) (pa_cons (pv 0) (pa_cons (pe_op op_cat (pv 4) (pe_lst (pa_cons (C8.pe_c cO hr (by decide) (by rfl) (pa_cons (pv 0) pa_nil)) pa_nil))) pa_nil))))))), ?_⟩
    refine ⟨_, rfl, _, rfl, c, _, rfl, .inr (SqT.of hc), a, _, rfl, pot, by rw [List.length_map]; omega, by rw [List.length_map]; omega, fun at' H1 p0 p1 g1 => ?_⟩
    -- odd
    refine ⟨fun σ' H' => ∃ xo : V, σ' = [some (.ref a), some (.ref c), some (.int at'), some xo, Option.none] ∧ Go a H H' ∧ Th K (Off a H') 0 xo ∧ rowV xo = false, ?_, ?_⟩
    · refine ⟨_, rfl, _, rfl, by show 1 ≤ sizeLine; decide, fun t nt => ⟨_, _, rfl, rfl, ⟨by decide, by decide, by decide⟩, Nat.zero_le _, fun l0 nl0 => ⟨by show 8 ≤ sizeLine; decide, fun l nl => ?_⟩⟩⟩
      have e1 := Ext.upd (o := .tup [.int 1]) nt
      have e2 := Ext.upd (o := .lst []) nl0
      have g2 := Go.of_ext g1.1 (e1.trans e2)
      have g3 := Go.new (o := .lst [.int 1001, .int (-1001), .bl true, .non, .str "1", .ref t, .int (10 ^ (11 : Int).toNat), .ref l0]) g2.1 nl
      refine ⟨a, l, _, rfl, g3.1, (g2.1.ne nl).symm, upd_same, by simp, by show 8 ≤ 1000; decide, fun x H4 hx g4 => ?_⟩
      have go : Go a H H4 := g1.trans (g2.trans (g3.trans g4))
      have t4 : H4 t = some (.tup [.int 1]) := (g3.trans g4).tup g2.1 (e2 _ _ upd_same)
      have nla : l0 ≠ a := ((Go.of_ext g1.1 e1).1.ne nl0).symm
      have l4 : H4 l0 = some (.lst []) := (g3.trans g4).2 _ _ nla upd_same
      refine ⟨x, rfl, go, ?_⟩
      simp only [List.mem_cons, List.not_mem_nil, or_false] at hx
      rcases hx with rfl | rfl | rfl | rfl | rfl | rfl | rfl | rfl
      · exact ⟨Th.int _, by decide⟩
      · exact ⟨Th.int _, by decide⟩
      · exact ⟨Th.bl _, rfl⟩
      · exact ⟨Th.non, rfl⟩
      · exact ⟨Th.str _, rfl⟩
      · exact ⟨Th.tup0 (off_tup go.1 t4), rfl⟩
      · exact ⟨Th.int _, by decide⟩
      · exact ⟨Th.lst (off_at nla l4 fun _ z => nomatch z), rfl⟩
    · rintro σ' H2 ⟨xo, rfl, go, tho, nro⟩
      have hc2 := go.tup pot hc
      have len : (ns.map V.int).length = ns.length := List.length_map ..
      have cutL : ∀ lo hi, (cutV (ns.map V.int) lo hi).length ≤ ns.length := fun lo hi => by have := cutV_length (ns.map V.int) lo hi; omega
      -- the parts, one by one
      refine ⟨_, rfl, by show 1 ≤ sizeLine; decide, fun t1 n1 => cat_any (Ext.upd n1 _ _ hc2) upd_same (by simp; omega) fun q1 A1 x1 y1 => ?_⟩
      have hc3 := x1 _ _ (Ext.upd n1 _ _ hc2)
      refine ⟨_, rfl, 1, rfl, -1, rfl, sl_any hc3 fun q2 A2 x2 y2 => ?_⟩
      refine ⟨_, rfl, c, _, rfl, .inr (SqT.of (x2 _ _ hc3)), fun q3 n3 => ?_⟩
      have x3 := Ext.upd (o := .lst (ns.map V.int)) n3
      have y3 : (upd A2 q3 (.lst (ns.map V.int))) q3 = some (.lst (ns.map V.int)) := upd_same
      have hc4 := x3 _ _ (x2 _ _ hc3)
      have nq3 : q3 ≠ a := ((Go.of_ext go.1 ((Ext.upd n1).trans (x1.trans x2))).1.ne n3).symm
      generalize upd A2 q3 (.lst (ns.map V.int)) = A3 at *
      refine ⟨_, rfl, _, rfl, at', rfl, sl_any hc4 fun r1 B1 z1 w1 => ?_⟩
      refine ⟨_, rfl, by show 1 ≤ sizeLine; decide, fun t2 n2 => cat_any (Ext.upd n2 _ _ w1) upd_same (by have := cutL none (some at'); simp; omega) fun r2 B2 z2 w2 => ?_⟩
      have hc5 := z2 _ _ (Ext.upd n2 _ _ (z1 _ _ hc4))
      refine ⟨_, rfl, _, rfl, _, _, rfl, rfl, at' + 1, rfl, ?_⟩
      dsimp only [tNoPart]
      refine sl_any (K := K) (lo := some (at' + 1)) (hi := none) hc5 fun r3 B3 z3 w3 => ?_
      refine cat_any (z3 _ _ w2) w3 (by have := cutL none (some at'); have := cutL (some (at' + 1)) none; simp; omega) fun q4 B4 z4 y4 => ?_
      have hc6 := z4 _ _ (z3 _ _ hc5)
      refine ⟨_, rfl, _, rfl, at', rfl, sl_any hc6 fun s1 C1 u1 v1 => ?_⟩
      refine ⟨_, rfl, by show 1 ≤ sizeLine; decide, fun t3 n4 => cat_any (Ext.upd n4 _ _ v1) upd_same (by have := cutL none (some at'); simp; omega) fun s2 C2 u2 v2 => ?_⟩
      have hc7 := u2 _ _ (Ext.upd n4 _ _ (u1 _ _ hc6))
      refine ⟨_, rfl, _, rfl, _, _, rfl, rfl, at' + 1, rfl, ?_⟩
      dsimp only [tNoPart]
      refine sl_any (K := K) (lo := some (at' + 1)) (hi := none) hc7 fun s3 C3 u3 v3 => ?_
      refine cat_any (u3 _ _ v2) v3 (by have := cutL none (some at'); have := cutL (some (at' + 1)) none; simp; omega) fun q5 C4 u4 y5 => ?_
      refine ⟨by show 5 ≤ sizeLine; decide, fun l nl => ?_⟩
      -- all of it stands behind
      have f4 : Ext B4 C4 := u1.trans ((Ext.upd n4).trans (u2.trans (u3.trans u4)))
      have f3 : Ext A3 C4 := z1.trans ((Ext.upd n2).trans (z2.trans (z3.trans (z4.trans f4))))
      have f2 : Ext A2 C4 := x3.trans f3
      have f1 : Ext A1 C4 := x2.trans f2
      have f0 : Ext H2 C4 := (Ext.upd n1).trans (x1.trans f1)
      have g5 := Go.of_ext go.1 f0
      have nla : l ≠ a := (g5.1.ne nl).symm
      have g6 := Go.new (o := .lst [.ref q1, .ref q2, .ref q3, .ref q4, .ref q5]) g5.1 nl
      refine ⟨_, rfl, _, rfl, _, rfl, a, rfl, g6.1, fun x9 H9 g9 odd9 => ⟨by show 1 ≤ sizeLine; decide, fun l1 nl1 => ?_⟩⟩
      have hl9 := g9.2 _ _ nla upd_same
      have g10 := Go.new (o := .lst [x9]) g9.1 nl1
      have nl1l : l ≠ l1 := ne_of_none hl9 nl1
      refine ⟨l, l1, _, _, rfl, rfl, by rw [upd_ne nl1l]; exact hl9, upd_same, by show 5 + 1 ≤ sizeLine; decide, fun l2 nl2 => ?_⟩
      have g11 := Go.new (o := .lst ([.ref q1, .ref q2, .ref q3, .ref q4, .ref q5] ++ [x9])) g10.1 nl2
      refine ⟨a, l2, _, rfl, g11.1, (g10.1.ne nl2).symm, upd_same, by simp, by show 6 ≤ 1000; decide, fun x H12 hx g12 => ?_⟩
      have gA : Go a C4 H12 := g6.trans (g9.trans (g10.trans (g11.trans g12)))
      have gB : Go a H9 H12 := g10.trans (g11.trans g12)
      refine k x H12 (go.trans (g5.trans gA)) ?_
      have tuple : ∀ {q : Addr} {xs : List V}, C4 q = some (.tup xs) → (Off a H12) q = some (.tup xs) := fun h => off_tup gA.1 (gA.tup g5.1 h)
      have allI : ∀ y ∈ ns.map V.int, Th K (Off a H12) 0 y := fun y hy => by
        obtain ⟨n, _, rfl⟩ := List.mem_map.mp hy
        exact Th.int n
      have tho' : Th K (Off a H12) 0 xo := tho.ext (g5.trans gA).off
      simp only [List.cons_append, List.nil_append, List.mem_cons, List.not_mem_nil, or_false] at hx
      rcases hx with rfl | rfl | rfl | rfl | rfl | rfl
      · refine NR.tup (tuple (f1 _ _ y1)) (fun y hy => ?_) (.inl ?_)
        · rcases List.mem_append.mp hy with z | z
          · exact allI y z
          · rw [List.mem_singleton.mp z]
            exact Th.int _
        · rw [List.length_append, len]
          show ((ns.length + 1 : Nat) : Int) ≠ _
          omega
      · refine NR.tup (tuple (f2 _ _ y2)) (fun y hy => allI y (cut_mem hy)) (.inl ?_)
        have e : (cutV (ns.map V.int) none (some (-1))).length = ns.length - 1 := by
          unfold cutV
          rw [len, show HT.sIx ns.length 0 none = 0 from rfl, show HT.sIx ns.length ns.length (some (-1)) = ns.length - 1 from ?_]
          · simp
          · show (if (-1 : Int) < 0 then ((-1 : Int) + (ns.length : Int)).toNat else min (-1 : Int).toNat ns.length) = ns.length - 1
            rw [if_pos (by decide)]
            omega
        rw [e]
        omega
      · have h3 : (Off a H12) q3 = some (.lst (ns.map V.int)) := off_at nq3 (gA.2 _ _ nq3 (f3 _ _ y3)) fun _ z => nomatch z
        exact NR.obj (Th.lst h3) h3 fun _ z => nomatch z
      · refine NR.tup (tuple (f4 _ _ y4)) (fun y hy => ?_) (.inr ⟨xo, by simp, nro⟩)
        rcases List.mem_append.mp hy with z | z
        · rcases List.mem_append.mp z with z | z
          · exact allI y (cut_mem z)
          · rw [List.mem_singleton.mp z]
            exact tho'
        · exact allI y (cut_mem z)
      · refine NR.tup (tuple y5) (fun y hy => ?_) (.inr ⟨xo, by simp, nro⟩)
        rcases List.mem_append.mp hy with z | z
        · rcases List.mem_append.mp z with z | z
          · exact allI y (cut_mem z)
          · rw [List.mem_singleton.mp z]
            exact tho'
        · exact allI y (cut_mem z)
      · have o' := odd9.1.ext gB.off
        exact ⟨o', fun z => odd9.2 _ (z.back gB.off odd9.1)⟩
end
end F20

set_option Elab.async false
set_option linter.all false
set_option maxRecDepth 100000
set_option maxHeartbeats 4000000
set_option pp.maxSteps 60
/-! What a lambda's call tells: _law_word. -/
namespace F20
open PySem L2 LamX
abbrev sWord : Stmt := top 23
theorem kit_same {K : PySem.W.Frag} {C : Addr} : PySem.W.kitOne K (.ref C) (.ref C) = some true := by
  unfold PySem.W.kitOne
  rw [if_pos (beq_self_eq_true _)]
section
open PySem.Spec PyProof.Rows
/-- isinstance of a caught exception that has no dict -/
def rIsX0 (K : PySem.W.Frag) (C a : Addr) (cls : Value) (d : Option Addr) : List V → Hp → VK → Prop := fun xs H Q => ∃ (c : V) (cv : Value) (b : Bool), xs = [.ref a, c] ∧ ClsV c cv ∧ cls = .ref C ∧ d = none ∧ PySem.W.kitOne K (.ref C) cv = some b ∧ Q (.bl b) H
variable {X : Cx} {a C : Addr} {oe : Obj} {cls : Value} {d : Option Addr} {pn : List (Addr × Obj)}
theorem call_isX0 (T : ExIs X.K C) (hz : Zc cls d oe) (hf : ∃ vs, oe.data = .fields vs) : CallR (X.suite a ((a, oe) :: pn)) (.builtin "isinstance") (rIsX0 X.K C a cls d) := by
  rintro pins s σ H xs us Q I r ⟨c, cv, b, rfl, hc, rfl, rfl, e, q⟩
  obtain ⟨u1, u2, rfl, r1, r2⟩ := vals2 r
  obtain rfl : u1 = Value.ref a := r1
  obtain rfl := hc.eq r2
  obtain ⟨there, _⟩ := I.pin (a, oe) (List.mem_append_left _ List.mem_cons_self)
  obtain ⟨vs, dt⟩ := hf
  have J : PySem.W.InstAt s.heap a oe C none := ⟨there, hz.1, by unfold PySem.W.notCls; rw [dt] <;> rfl, by rw [hz.2]; trivial⟩
  exact PySem.W.kia_one (PySem.W.kitx_exc T.cls T.ga T.gt T.sb T.ha T.hn T.ht T.hm) I.kIn J e (fun z => nomatch z) fun tk => ⟨.bl b, H, I.tok tk, rfl, q⟩
/-- list.count of flat items -/
def rCntF (K : PySem.W.Frag) : V → List V → Hp → VK → Prop := fun x xs H Q => ∃ (l : Addr) (ys : List V) (y : V), x = .ref l ∧ xs = [y] ∧ SqL K H l ys ∧ flatV y = true ∧ ys.all flatV = true ∧ Q (.int ((ys.countP fun z => eqV z y) : Nat)) H
theorem count_eqU {x : V} : ∀ {xs : List V} {us : List Value}, Vals xs us → xs.all flatV = true → us.countP (eqU x) = xs.countP fun y => eqV y x
  | _, _, .nil, _ => rfl
  | y :: xs, u :: us, .cons r t, f => by
    rw [List.all_cons, Bool.and_eq_true] at f
    rw [List.countP_cons, List.countP_cons, count_eqU t f.2, eqU_of r f.1]
theorem mt_countF : MtR X "list.count" (rCntF X.K) := by
  rintro pins s σ H x xs v us Q I rx rxs ⟨l, ys, y, rfl, rfl, hs, fy, fys, q⟩
  obtain rfl : v = Value.ref l := rx
  obtain ⟨u, rfl, ru⟩ := rxs.one
  obtain ⟨its, rv, ⟨⟨cls', dd, data, sl⟩, n, ho, hc, hdn, hd⟩, hlen⟩ := I.list hs
  obtain rfl : cls' = _ := hc
  obtain rfl : data = _ := hd
  have all : ∀ w ∈ its.toArray, SeqAt.EqAt X.A.in1 s w u (eqU y w) := fun w hw => mem_eqAt ru fy rv fys w (by simpa using hw)
  refine call_meets PySem.F.slot_list_count ⟨_, ho, rfl⟩ PySem.F.entry_list_count (PySem.F.args_list_count_2 _ _) (SeqAt.list_countAt l its.toArray n dd sl u (eqU y)) ⟨ho, all, ?_⟩
  have e : its.toArray.toList.countP (eqU y) = ys.countP fun z => eqV z y := count_eqU rv fys
  exact ⟨.int ((ys.countP fun z => eqV z y) : Nat), H, I.tok _, ⟨s.toks, by rw [e]⟩, q⟩
/-- a block whose reading may know how many slots there are -/
theorem pss_len {st : List Stmt} {t : TS} (n : Nat) (hn : X.N.length = n) (h : PSs X st t) : PSs X st (fun D σ H => σ.length = n → t D σ H) := ⟨fun pins s σ H D I hw => h.run pins s σ H D I (hw (I.len.trans hn))⟩
end
/-- what _law_word makes of a call: "let", or "row" for a NoRow -/
def TTword (CN : Addr) : (XK → Hp → VK → Prop) → Hp → VK → Prop := fun tl H Q => tl (fun cls d H' => cls = .ref CN ∧ d = none ∧ ∀ H'', Ext H' H'' → Q (.str "row") H'') H (fun _ H' => ∃ v, some (some (V.str "let")) = some (some v) ∧ Q v H')
structure WordC (K : PySem.W.Frag) (mg : Str → Option Value) (CN CE fI : Addr) : Prop where
  n : ErrC K mg "NoRow" CN fI
  mE : mg "WebError" = some (.ref CE)
  eE : PySem.W.exmOne K (.ref CN) (.ref CE) = some true
  kV : PySem.W.kitOne K (.ref CN) (.type "ValueError") = some true
abbrev wordN : List Str := ["call", "word", "error", "flags", "names"]
theorem scWord : FnScope wordN ["call"] (defScope sWord) := ⟨rfl, rfl, rfl, by decide +kernel, rfl, by decide +kernel, by decide +kernel⟩
theorem five {σ : L2.St} (h : σ.length = 5) : ∃ x0 x1 x2 x3 x4, σ = [x0, x1, x2, x3, x4] := by
  match σ, h with
  | [x0, x1, x2, x3, x4], _ => exact ⟨_, _, _, _, _, rfl⟩
theorem word_gives {X : Cx} {g CN CE fI : Addr} {cdg : Value} {q : Str} (T : Gb X.mg) (C : WordC X.K X.mg CN CE fI) : GivesTo X wordN "_law_word" (defScope sWord) g cdg (defBody sWord) "call" q (TTword CN) := by
  intro f c' s H Q tl act hc h
  refine ⟨_, pss_cons (ps_set (i := 1) scWord.nd rfl (Or.inl rfl) pe_str)
    (pss_cons (ps_try_as (X := (cxOf C8.CX0 X.prog X.w X.K X.mg X.base wordN "_law_word" (defScope sWord) g cdg X.A X.stack s H C8.E0).nox) (c := .ref CE) (i := 2)
        (tb := fun W D σ H => ∃ Ech : XK, (∀ cls d σ' H', Ech cls d H' → W cls d σ' H') ∧ σ[0]? = some (some (.ref f)) ∧ H c' = some (CodeO c' q) ∧ tl Ech H (fun _ H' => D.nx σ H'))
        rfl rfl scWord.nd rfl rfl ⟨rfl, by decide, .inl C.mE⟩ L2.takes0 (fun W pn xe tk _ => ⟨fun pins s' σ H' D I h' => ?_⟩)
        (fun a oe cls d pn hz hf => pss_len 5 rfl (pss_cons (ps_set (i := 3) scWord.nd rfl (Or.inl rfl) (pe_lst (pa_cons (pe_callB (call_isX0 C.n.is hz hf) (by rfl) T.isi (by decide +kernel) (pa_cons (pv 2) (pa_cons (pe_glob (v := .ref CN) rfl C.n.gC rfl) pa_nil))) pa_nil)))
          (pss_cons (ps_set (i := 4) scWord.nd rfl (Or.inl rfl) (pe_lst (pa_cons pe_str pa_nil)))
          (pss_one (ps_set (i := 1) scWord.nd rfl (Or.inl rfl) (pe_ifExp (PW.pt (pw_and (pt_cmpR (ta := tBM X.K "list" (rCntF X.K) (tVar 3) (tCons (tC (.bl true)) tNil)) op_eq (pe_bm PySem.F.plainAttrs_list PySem.F.slot_list_count PySem.F.type_list_count mt_countF (pv 3) (pa_cons pe_bl pa_nil)) pe_int (nomark _))
              (pw_and1 (pt_val (pe_callB (call_isX0 C.n.is hz hf) (by rfl) T.isi (by decide +kernel) (pa_cons (pv 2) (pa_cons (pe_bltn (v := .ty "ValueError") (by rfl) T.ve (by decide +kernel) rfl) pa_nil)))))))
            (pe_ix (r := rIxL X.K) (ta := tVar 4) (tb := tBM X.K "list" (rIndex X.K) (tVar 3) (tCons (tC (.bl true)) tNil)) ix_list (pv 4) (pe_bm PySem.F.plainAttrs_list PySem.F.slot_list_index PySem.F.type_list_index mt_index (pv 3) (pa_cons pe_bl pa_nil)) (fun _ _ => rfl)) pe_str)))))))
    (pss_one (ps_ret (pv 1)))), ?_⟩
  · obtain ⟨Ech, hW, h1, h2, h3⟩ := h'
    exact (pss_one (ps_expr (act W pn xe Ech _ _ tk hW))).run pins s' σ H' D I ⟨h1, h2, h3⟩
  · refine ⟨fun cls d H' => cls = .ref CN ∧ d = none ∧ ∀ H'', Ext H' H'' → Q (.str "row") H'', ?_, rfl, hc, h⟩
    rintro cls d σ' H' ⟨rfl, rfl, k⟩
    refine ⟨true, C.eE, fun _ a na hl => ?_, fun z => nomatch z⟩
    rw [List.length_set] at hl
    obtain ⟨x0, x1, x2, x3, x4, rfl⟩ := five hl
    refine ⟨_, rfl, .ref CN, .ref CN, true, rfl, .own CN, rfl, rfl, kit_same, by show 1 ≤ sizeLine; decide, fun l nl => ?_⟩
    refine ⟨by show 1 ≤ sizeLine; decide, fun l2 nl2 => ?_⟩
    have hl1 : (upd (upd H' l (.lst [.bl true])) l2 (.lst [.str "row"])) l = some (.lst [.bl true]) := Ext.upd nl2 _ _ upd_same
    refine ⟨_, rfl, .inl ⟨rfl, _, SqL.of hl1⟩, l, _, .bl true, rfl, rfl, SqL.of hl1, rfl, rfl, rfl, _, rfl, ?_⟩
    refine iteT ⟨_, rfl, .ty "ValueError", .type "ValueError", true, rfl, .ty "ValueError", rfl, rfl, C.kV, _, rfl, ?_⟩
    refine iteT ⟨_, rfl, _, rfl, .inl ⟨rfl, _, SqL.of hl1⟩, l, _, .bl true, 0, .bl true, rfl, rfl, SqL.of hl1, rfl, rfl, rfl, rfl, fun m z' hm => absurd hm (Nat.not_lt_zero m), ?_⟩
    refine ⟨l2, _, _, _, rfl, rfl, SqL.of upd_same, rfl, ?_⟩
    exact ⟨_, rfl, k _ ((Ext.upd nl).trans (Ext.upd nl2))⟩
end F20

set_option Elab.async false
set_option linter.all false
set_option maxRecDepth 100000
set_option maxHeartbeats 4000000
set_option pp.maxSteps 60
/-! Sums, and what stays over the making of a lambda. -/
namespace F20
open PySem L2 LamX
theorem int_inj : ∀ {ns ks : List Int}, ns.map V.int = ks.map V.int → ns = ks
  | [], [], _ => rfl
  | n :: ns, k :: ks, h => by
    injection h with h1 h2
    injection h1 with h1
    rw [h1, int_inj h2]
  | [], k :: ks, h => by cases h
  | n :: ns, [], h => by cases h
/-! ### the sums -/
def bothL (ns ks : List Int) : List Int := (ns.zip ks).map fun p => p.1 + p.2
theorem bothL_len {ns ks : List Int} (h : ns.length = ks.length) : (bothL ns ks).length = ns.length := by
  unfold bothL
  rw [List.length_map, List.length_zip]
  omega
theorem bothL_getD : ∀ {ns ks : List Int} (j : Nat), ns.length = ks.length → (bothL ns ks).getD j 0 = ns.getD j 0 + ks.getD j 0
  | [], [], j, _ => by simp [bothL]
  | n :: ns, k :: ks, 0, _ => by simp [bothL]
  | n :: ns, k :: ks, j + 1, h => by
    have ih := bothL_getD (ns := ns) (ks := ks) j (by simpa using h)
    simpa [bothL] using ih
theorem dot_comm : ∀ (ns ks : List Int), dot ns ks = dot ks ns
  | [], [] => rfl
  | [], k :: ks => by simp [dot]
  | n :: ns, [] => by simp [dot]
  | n :: ns, k :: ks => by
    have ih := dot_comm ns ks
    unfold dot at ih ⊢
    simp only [List.zip_cons_cons, List.map_cons, List.sum_cons]
    rw [ih, Int.mul_comm]
theorem dot_add : ∀ {ns ks ls : List Int}, ns.length = ks.length → dot (bothL ns ks) ls = dot ns ls + dot ks ls
  | [], [], ls, _ => by simp [dot, bothL]
  | n :: ns, k :: ks, [], _ => by simp [dot, bothL]
  | n :: ns, k :: ks, l :: ls, h => by
    have ih := dot_add (ns := ns) (ks := ks) (ls := ls) (by simpa using h)
    unfold dot bothL at ih ⊢
    simp only [List.zip_cons_cons, List.map_cons, List.sum_cons]
    rw [ih, Int.add_mul]
    omega
theorem along_add {ns ks ls : List Int} (h : ns.length = ks.length) : ∀ A : Ar, along A (bothL ns ks) ls = along A ns ls + along A ks ls
  | [] => by simp [along]
  | a :: A => by
    have ih := along_add (ls := ls) h A
    unfold along at ih ⊢
    simp only [List.map_cons, List.sum_cons]
    rw [ih, bothL_getD _ h, Int.add_mul]
    omega
theorem eul_add {A : Ar} {ns ks ls : List Int} (h : ns.length = ks.length) : eul A (bothL ns ks) ls = eul A ns ls + eul A ks ls := by
  unfold eul
  rw [dot_add h, along_add h]
  omega
def swap (a : Nat × Nat) : Nat × Nat := (a.2, a.1)
theorem along_swap : ∀ (A : Ar) (ns ks : List Int), along (A.map swap) ns ks = along A ks ns
  | [], ns, ks => rfl
  | a :: A, ns, ks => by
    have ih := along_swap A ns ks
    unfold along at ih ⊢
    simp only [List.map_cons, List.sum_cons]
    rw [ih]
    show ns.getD a.2 0 * ks.getD a.1 0 + _ = ks.getD a.1 0 * ns.getD a.2 0 + _
    rw [Int.mul_comm]
theorem eul_swap (A : Ar) (ns ks : List Int) : eul (A.map swap) ns ks = eul A ks ns := by
  unfold eul
  rw [along_swap, dot_comm]
theorem inside_swap {m : Nat} {A : Ar} (h : Inside m A) : Inside m (A.map swap) := fun a ha => by
  obtain ⟨c, hc, rfl⟩ := List.mem_map.mp ha
  exact ⟨(h c hc).2, (h c hc).1⟩
def absL (ns : List Int) : List Int := ns.map fun i => if i < 0 then -i else i
theorem absL_row {m : Int} {ns : List Int} (hl : (ns.length : Int) = m) {t : Int} (ht : t ≤ 1000) (h : ∀ y ∈ absL ns, y ≤ t) : RowL m ns := by
  refine ⟨hl, fun n hn => ?_⟩
  have q := h _ (List.mem_map_of_mem hn)
  by_cases z : n < 0
  · rw [if_pos z] at q
    omega
  · rw [if_neg z] at q
    omega
end F20

set_option Elab.async false
set_option linter.all false
set_option maxRecDepth 100000
set_option maxHeartbeats 8000000
set_option pp.maxSteps 60
namespace F20
open PySem L2 LamX
abbrev sLaw : Stmt := top 30
abbrev lamQ : Str := (("law" : Str) ++ ".<locals>.") ++ "<lambda>"
/-! ### what a turn of the law stands on -/
theorem PotAt.extN {H H' : Hp} {a : Addr} (e : ExtN H H') (p : PotAt H a) : PotAt H' a := by
  obtain ⟨c, ns, i, z, s, n, h1, h2⟩ := p
  exact ⟨c, ns, i, z, s, n, e _ _ h1 (fun _ z => nomatch z), e _ _ h2 (fun _ z => nomatch z)⟩
theorem TT.extN {H H' : Hp} {b : Addr} {ll : List (List Int)} (e : ExtN H H') (h : TT H b ll) : TT H' b ll := by
  obtain ⟨as, h1, h2⟩ := h
  exact ⟨as, e _ _ h1 (fun _ z => nomatch z), PT2.mono (fun c xs z => e _ _ z (fun _ y => by cases y)) h2⟩
theorem Tabs.go {a : Addr} {T : List (Addr × Str)} {H H' : Hp} (p : PotAt H a) (g : Go a H H') (t : Tabs T H) : Tabs T H' := fun q hq => by
  obtain ⟨ps, h1, h2, h3⟩ := t q hq
  refine ⟨ps, g.2 _ _ (pot_no p h1 fun _ z => nomatch z) h1, h2, fun pos cv hc => ?_⟩
  obtain ⟨c, e1, e2⟩ := h3 pos cv hc
  exact ⟨c, e1, g.2 _ _ (pot_no p e2 fun _ z => nomatch z) e2⟩
theorem Tabs.put {T : List (Addr × Str)} {H : Hp} {l : Addr} {xs ys : List V} (hl : H l = some (.lst xs)) (t : Tabs T H) : Tabs T (upd H l (.lst ys)) := fun q hq => by
  obtain ⟨ps, h1, h2, h3⟩ := t q hq
  have n1 : q.1 ≠ l := fun e => by rw [e, hl] at h1; cases h1
  refine ⟨ps, by rw [upd_ne n1]; exact h1, h2, fun pos cv hc => ?_⟩
  obtain ⟨c, e1, e2⟩ := h3 pos cv hc
  have n2 : c ≠ l := fun e => by rw [e, hl] at e2; cases e2
  exact ⟨c, e1, by rw [upd_ne n2]; exact e2⟩
theorem TT.go {a b : Addr} {H H' : Hp} {ll : List (List Int)} (p : PotAt H a) (g : Go a H H') (h : TT H b ll) : TT H' b ll := by
  obtain ⟨as, h1, h2⟩ := h
  exact ⟨as, g.tup p h1, PT2.mono (fun c xs z => g.tup p z) h2⟩
theorem arrows_of {m : Int} : ∀ {ll : List (List Int)}, (∀ l ∈ ll, ArrL m l) → ∃ A : Ar, ll = A.map arL ∧ Inside m.toNat A
  | [], _ => ⟨[], rfl, fun a ha => by cases ha⟩
  | l :: ll, h => by
    obtain ⟨p, q, rfl, h1, h2, h3, h4⟩ := h l List.mem_cons_self
    obtain ⟨A, rfl, ins⟩ := arrows_of (m := m) (ll := ll) fun k hk => h k (List.mem_cons_of_mem _ hk)
    refine ⟨(p.toNat, q.toNat) :: A, ?_, fun a ha => ?_⟩
    · have e1 : ((p.toNat : Nat) : Int) = p := by omega
      have e2 : ((q.toNat : Nat) : Int) = q := by omega
      show [p, q] :: _ = [((p.toNat : Nat) : Int), ((q.toNat : Nat) : Int)] :: _
      rw [e1, e2]
    · rcases List.mem_cons.mp ha with rfl | ha
      · exact ⟨by show p.toNat < m.toNat; omega, by show q.toNat < m.toNat; omega⟩
      · exact ins a ha
theorem arrL_of {m : Int} {A : Ar} (h : Inside m.toNat A) : ∀ l ∈ A.map arL, ArrL m l := fun l hl => by
  obtain ⟨a, ha, rfl⟩ := List.mem_map.mp hl
  obtain ⟨h1, h2⟩ := h a ha
  exact ⟨(a.1 : Int), (a.2 : Int), rfl, by omega, by omega, by omega, by omega⟩
theorem extN_put {H H' : Hp} {l : Addr} {o : HO} (e : ExtN H H') (f : ∀ b u, H b = some u → (∀ ps, u ≠ .tbl ps) → b ≠ l) : ExtN H (upd H' l o) := fun b u h n => by
  rw [upd_ne (f b u h n)]
  exact e b u h n
structure Pu (m : Int) (A : Ar) (ns ks ls : List Int) : Prop where
  m1 : 1 ≤ m
  m6 : m ≤ 6
  al : A.length ≤ 12
  ins : Inside m.toNat A
  rn : RowL m ns
  rk : RowL m ks
  rl : RowL m ls
structure Wd (CW r p b c d e : Addr) (m : Int) (A : Ar) (ns ks ls : List Int) (H : Hp) : Prop where
  pot : PotAt H r
  web : WebAt CW H p m b
  arr : TT H b (A.map arL)
  hc : H c = some (.tup (ns.map V.int))
  hd : H d = some (.tup (ks.map V.int))
  he : H e = some (.tup (ls.map V.int))
theorem Wd.extN {CW r p b c d e : Addr} {m : Int} {A : Ar} {ns ks ls : List Int} {H H' : Hp} (x : ExtN H H') (h : Wd CW r p b c d e m A ns ks ls H) : Wd CW r p b c d e m A ns ks ls H' :=
  ⟨h.pot.extN x, h.web.imp (fun _ z => x _ _ z (fun _ y => by cases y)), h.arr.extN x, x _ _ h.hc (fun _ y => nomatch y), x _ _ h.hd (fun _ y => nomatch y), x _ _ h.he (fun _ y => nomatch y)⟩
theorem Wd.ext {CW r p b c d e : Addr} {m : Int} {A : Ar} {ns ks ls : List Int} {H H' : Hp} (x : Ext H H') (h : Wd CW r p b c d e m A ns ks ls H) : Wd CW r p b c d e m A ns ks ls H' := h.extN (ExtN.of x)
theorem Wd.go {CW r p b c d e : Addr} {m : Int} {A : Ar} {ns ks ls : List Int} {H H' : Hp} (g : Go r H H') (h : Wd CW r p b c d e m A ns ks ls H) : Wd CW r p b c d e m A ns ks ls H' :=
  ⟨g.1, h.web.imp (fun _ z => g.2 _ _ (pot_no h.pot z (fun _ y => by cases y)) z), by
    obtain ⟨as, h1, h2⟩ := h.arr
    exact ⟨as, g.tup h.pot h1, PT2.mono (fun c xs z => g.tup h.pot z) h2⟩, g.tup h.pot h.hc, g.tup h.pot h.hd, g.tup h.pot h.he⟩
theorem row_th {K : PySem.W.Frag} {H : Hp} {c : Addr} {ns : List Int} (h : H c = some (.tup (ns.map V.int))) : Th K H 1 (.ref c) := Th.tup h fun y hy => by
  obtain ⟨n, _, rfl⟩ := List.mem_map.mp hy
  exact Th.int n
/-- Euler's form of two rows -/
theorem eul_ok {K : PySem.W.Frag} {CW CN p b c d : Addr} {m : Int} {A : Ar} {ns ks : List Int} {H : Hp} {Q : VK} {E : XK} (hw : WebAt CW H p m b) (m8 : m ≤ 8) (tt : TT H b (A.map arL)) (al : A.length ≤ 12) (ins : Inside m.toNat A) (hc : H c = some (.tup (ns.map V.int))) (rn : RowL m ns)
    (hd : H d = some (.tup (ks.map V.int))) (rk : RowL m ks) (k : ∀ H', Ext H H' → Q (.int (eul A ns ks)) H') : spEul K CW CN [.ref p, .ref c, .ref d] H Q E := by
  refine ⟨p, b, m, A, _, _, rfl, hw, m8, tt, al, ins, row_th hc, row_th hd, fun c' d' ns' ks' H' ex hc' _ ey hd' _ e => ?_, fun H' no _ => (no ⟨⟨c, ns, rfl, hc, rn⟩, d, ks, rfl, hd, rk⟩).elim⟩
  cases ex
  cases ey
  rw [hc] at hc'
  rw [hd] at hd'
  injection hc' with hc'
  injection hc' with hc'
  injection hd' with hd'
  injection hd' with hd'
  rw [← int_inj hc', ← int_inj hd']
  exact k H' e
/-- .. of something that is no row -/
theorem eul_bad {K : PySem.W.Frag} {CW CN p b : Addr} {m : Int} {A : Ar} {x y : V} {H : Hp} {Q : VK} {E : XK} (hw : WebAt CW H p m b) (m8 : m ≤ 8) (tt : TT H b (A.map arL)) (al : A.length ≤ 12) (ins : Inside m.toNat A) (tx : Th K H 1 x) (ty : Th K H 1 y) (no : ¬ (isRow H m x ∧ isRow H m y))
    (k : ∀ H', Ext H H' → E (.ref CN) none H') : spEul K CW CN [.ref p, x, y] H Q E :=
  ⟨p, b, m, A, x, y, rfl, hw, m8, tt, al, ins, tx, ty, fun c d ns ks H' ex hc rn ey hd rk _ => (no ⟨⟨c, ns, ex, hc, rn⟩, d, ks, ey, hd, rk⟩).elim, fun H' _ e => k H' e⟩
theorem mirror_len {as : List Addr} {A : Ar} {S : Hp} (h : PT2 S as ((A.map swap).map arL)) : as.length = A.length := by
  rw [PT2.len h, List.length_map, List.length_map]
theorem decI {i j : Int} : decide (V.int i = V.int j) = decide (i = j) := by
  by_cases h : i = j
  · rw [h]; simp
  · rw [decide_eq_false h, decide_eq_false fun z => h (by injection z)]
/-- ["row", "row", "row"] twice -/
theorem three_rows {K : PySem.W.Frag} {H : Hp} {p q : Addr} {Q : VK} (h1 : H p = some (.lst [.str "row", .str "row", .str "row"])) (h2 : H q = some (.lst [.str "row", .str "row", .str "row"])) (h : Q (.bl false) H) : rNeD K (.ref p) (.ref q) H Q :=
  ⟨.list [.str "row", .str "row", .str "row"], .list [.str "row", .str "row", .str "row"], .lst (SqL.of h1) (.cons (.str _) (.cons (.str _) (.cons (.str _) .nil))), .lst (SqL.of h2) (.cons (.str _) (.cons (.str _) (.cons (.str _) .nil))), by decide +kernel, by decide +kernel, h⟩
def spLaw (K : PySem.W.Frag) (PL : Addr) : Sp := fun vs H Q _ => ∃ (a : Addr) (ns : List Int), vs = [.ref a] ∧ SqL K H a (ns.map V.int) ∧ ns.length ≤ 63 ∧ H PL = some (.tbl #[]) ∧ ∀ H', Q (.bl true) H'
abbrev lawN : List Str := ["script", "purse", "turn", "many", "arrows", "one", "last", "both", "mirrored", "said", "bad", "other", "web", "more", "less", "number", "a", "b"]
section
variable {P : Program} {w : World} {K : PySem.W.Frag} {mg : Str → Option Value} {base : Heap}
theorem scLaw : FnScope lawN ["script"] (defScope sLaw) := ⟨rfl, rfl, rfl, by decide +kernel, rfl, by decide +kernel, by decide +kernel⟩
/-- a def whose code object is known -/
theorem fn_at {x qual : Str} {st : Stmt} {f : Addr} {N ps : List Str} {k : Nat} {sp : Sp} {oc : Value} {od an : Option Addr} {osl : Array (Option Value)} {kV doc pm cdv ct : Value} (lk : K.lookup f = some ⟨oc, od, .func (PySem.W.fnOf x qual (defArgs st) (defBody st) (defScope st) .none kV doc pm an cdv ct), osl⟩)
    (hcd : PySem.W.codeIn K cdv qual = true) (S : FnScope N ps (defScope st)) (len : ∀ vs H Q E, sp vs H Q E → vs.length = ps.length)
    (body : ∀ (A : Around) (outer : List Env) (s : Shared) (H : Hp) (vs : List V) (Q : VK) (E : XK), Room k (A.deeper (PyProof.Rows.envOfC qual (defScope st) s.heap.objs.size f cdv)) → sp vs H Q E → ∃ t, PSs (cxOf CX0 P w K mg base N qual (defScope st) f cdv A outer s H E).nox (defBody st) t ∧ t { nx := fun _ H' => Q .non H', rt := Q } (L2.start N vs) H) :
    FnOk P w K mg base CX0 (k + 1) f (PySem.W.fnOf x qual (defArgs st) (defBody st) (defScope st) .none kV doc pm an cdv ct) ps sp :=
  fn_of lk hcd S len fun A outer s H vs Q E hr h => (body A outer s H vs Q E hr h).imp fun _ z => ⟨z.1.nox, z.2⟩
theorem ok_law {f fw fW fF fE CW CN CE fI cL PL : Addr} {fdW fdF fdE : FuncData} {oc ow : Value} {od an odw anw : Option Addr} {osl slw : Array (Option Value)} {kV doc pm ct kVw docw pmw cdvw ctw : Value}
    (lk : K.lookup f = some ⟨oc, od, .func (PySem.W.fnOf "law" "law" (defArgs sLaw) (defBody sLaw) (defScope sLaw) .none kV doc pm an (.ref cL) ct), osl⟩) (hcd : PySem.W.codeIn K (.ref cL) "law" = true) (TB : TabB base mg cL PL)
    (T : Gb mg) (W : WebC K mg CW) (M : FormC mg) (WC : WordC K mg CN CE fI)
    (cP : Cal P w K mg base 1 "_law_purse" (spPurse K) []) (cW : Cal P w K mg base 3 "_law_any_web" spAnyW []) (cR : Cal P w K mg base 3 "_law_row" spRowL []) (cI : Cal P w K mg base 1 "_law_is" spIsI []) (cS : Cal P w K mg base 1 "_law_summed" spSummed []) (cN : Cal P w K mg base 4 "_law_no_row" (spNoRow K) [])
    (MW : Mk K CW fW) (FW : FnOk P w K mg base CX0 4 fW fdW ["self", "many", "arrows"] (spWebR CW)) (bW : Binds K fdW ["self", "many", "arrows"] [])
    (FF : FnOk P w K mg base (L2.CX P w) 4 fF fdF ["web", "row"] (spForm K CW CN)) (mF : mg "form" = some (.ref fF)) (kF : PySem.W.keepIn K (.ref fF) = true) (bF : Binds K fdF ["web", "row"] [])
    (FE : FnOk P w K mg base (L2.CX P w) 3 fE fdE ["web", "one", "other"] (spEul K CW CN)) (mE : mg "euler" = some (.ref fE)) (kE : PySem.W.keepIn K (.ref fE) = true) (bE : Binds K fdE ["web", "one", "other"] [])
    (lw : K.lookup fw = some ⟨ow, odw, .func (PySem.W.fnOf "_law_word" "_law_word" (defArgs sWord) (defBody sWord) (defScope sWord) .none kVw docw pmw anw cdvw ctw), slw⟩) (cdw : PySem.W.codeIn K cdvw "_law_word" = true) (mw : mg "_law_word" = some (.ref fw)) (kw : PySem.W.keepIn K (.ref fw) = true)
    (bw : Binds K (PySem.W.fnOf "_law_word" "_law_word" (defArgs sWord) (defBody sWord) (defScope sWord) .none kVw docw pmw anw cdvw ctw) ["call"] []) :
    FnOk P w K mg base CX0 7 f (PySem.W.fnOf "law" "law" (defArgs sLaw) (defBody sLaw) (defScope sLaw) .none kV doc pm an (.ref cL) ct) ["script"] (spLaw K PL) := by
  refine fn_at lk hcd scLaw (fun vs H Q E h => ?_) (fun A outer s H vs Q E hr h => ?_)
  · obtain ⟨a, ns, rfl, _⟩ := h
    rfl
  · obtain ⟨s0, ns, rfl, hS, hlen, hPL, k⟩ := h
    have hr3 : Room 3 _ := hr.mono (by decide)
    have hr4 : Room 4 _ := hr.mono (by decide)
    have hr5 : Room 5 _ := hr.mono (by decide)
    refine ⟨_, pss_cons (ps_set (i := 1) scLaw.nd rfl (Or.inl rfl) (C8.pe_c cP hr (by decide) (by rfl) (pa_cons (pv 0) pa_nil)))
    (pss_cons (ps_for PassesOwn.never rfl (pi_range1 (by rfl) T.rng (pa_cons pe_int pa_nil)) (pg_name (i := 2) scLaw.nd rfl (Or.inl rfl))
      (pss_cons (ps_asg (C8.pe_c cW hr (by decide) (by rfl) (pa_cons (pv 1) pa_nil)) (pg_tup rfl (pgs_cons (pg_name (i := 3) scLaw.nd rfl (Or.inl rfl)) (pgs_cons (pg_name (i := 4) scLaw.nd rfl (Or.inl rfl)) pgs_nil))))
      (pss_cons (ps_set (i := 12) scLaw.nd rfl (Or.inr rfl) (pe_make MW FW hr5 (by rfl) W.mgC bW .nil pass0 (pa_cons (pv 3) (pa_cons (pv 4) pa_nil))))
      (C8.pss_cut (ps_asg (pe_tup (pa_cons (C8.pe_c cR hr (by decide) (by rfl) (pa_cons (pv 1) (pa_cons (pv 3) pa_nil))) (pa_cons (C8.pe_c cR hr (by decide) (by rfl) (pa_cons (pv 1) (pa_cons (pv 3) pa_nil))) (pa_cons (C8.pe_c cR hr (by decide) (by rfl) (pa_cons (pv 1) (pa_cons (pv 3) pa_nil))) pa_nil)))) (pg_tup rfl (pgs_cons (pg_name (i := 5) scLaw.nd rfl (Or.inl rfl)) (pgs_cons (pg_name (i := 11) scLaw.nd rfl (Or.inr rfl)) (pgs_cons (pg_name (i := 6) scLaw.nd rfl (Or.inl rfl)) pgs_nil)))))
      (C8.pss_cut (ps_if (pt_not (pt_val (C8.pe_c cI hr (by decide) (by rfl) (pa_cons (pe_call FF hr4 (by rfl) mF kF bF .nil passL (pa_cons (pv 12) (pa_cons (pv 5) pa_nil))) (pa_cons (C8.pe_c cS hr (by decide) (by rfl) (pa_cons (pv 4) (pa_cons (pv 5) (pa_cons (pv 5) pa_nil)))) pa_nil))))) (pss_one (ps_ret pe_bl)) pss_nil)
      (C8.pss_cut (ps_if (pt_not (pt_val (C8.pe_c cI hr (by decide) (by rfl) (pa_cons (pe_call FE hr3 (by rfl) mE kE bE .nil passL (pa_cons (pv 12) (pa_cons (pv 5) (pa_cons (pv 11) pa_nil)))) (pa_cons (C8.pe_c cS hr (by decide) (by rfl) (pa_cons (pv 4) (pa_cons (pv 5) (pa_cons (pv 11) pa_nil)))) pa_nil))))) (pss_one (ps_ret pe_bl)) pss_nil)
      (C8.pss_cut (ps_set (i := 7) scLaw.nd rfl (Or.inl rfl) (pe_callTy call_tuple_of (by rfl) T.tup (by decide +kernel) (pa_cons (pe_lc (own := [("more", 13), ("less", 14)]) (g := gTup K 2 (gCons (gName 13) (gCons (gName 14) gNil))) (tt := tYes) rfl scLaw.nd (RZ.pi_zipA (by rfl) M.zip (pa_cons (pv 5) (pa_cons (pv 11) pa_nil))) (blkOk_by (N := lawN) (sc := defScope sLaw) (by decide +kernel)) (fun _ _ _ _ _ => pg_tup rfl (pgs_cons (pg_name (i := 13) scLaw.nd rfl (Or.inl rfl)) (pgs_cons (pg_name (i := 14) scLaw.nd rfl (Or.inl rfl)) pgs_nil))) (fun _ _ _ _ _ => pts_nil) (fun _ _ _ _ _ => pe_op op_add (pv 13) (pv 14))) pa_nil)))
      (C8.pss_cut (ps_if (pt_cmpR op_le (pe_callB (cr_max rfl) (by rfl) T.max (by decide +kernel) (pa_cons (pe_lc (own := [("number", 15)]) (g := gName 15) (tt := tYes) rfl scLaw.nd (pi_tup (pv 7)) (blkOk_by (N := lawN) (sc := defScope sLaw) (by decide +kernel)) (fun _ _ _ _ _ => (pg_name (i := 15) scLaw.nd rfl (Or.inl rfl))) (fun _ _ _ _ _ => pts_nil) (fun _ _ _ _ _ => pe_callB call_abs (by rfl) T.abs (by decide +kernel) (pa_cons (pv 15) pa_nil))) pa_nil)) pe_int (nomark _))
        (pss_one (ps_if (pt_cmpR op_ne (pe_call FE hr3 (by rfl) mE kE bE .nil passL (pa_cons (pv 12) (pa_cons (pv 7) (pa_cons (pv 6) pa_nil)))) (pe_op op_add (pe_call FE hr3 (by rfl) mE kE bE .nil passL (pa_cons (pv 12) (pa_cons (pv 5) (pa_cons (pv 6) pa_nil)))) (pe_call FE hr3 (by rfl) mE kE bE .nil passL (pa_cons (pv 12) (pa_cons (pv 11) (pa_cons (pv 6) pa_nil))))) (nomark _)) (pss_one (ps_ret pe_bl)) pss_nil)) pss_nil)
      (C8.pss_cut (ps_set (i := 8) scLaw.nd rfl (Or.inl rfl) (pe_make MW FW hr5 (by rfl) W.mgC bW .nil pass0 (pa_cons (pv 3) (pa_cons (pe_callTy call_tuple_of (by rfl) T.tup (by decide +kernel) (pa_cons (pe_lc (own := [("a", 16), ("b", 17)]) (g := gTup K 2 (gCons (gName 16) (gCons (gName 17) gNil))) (tt := tYes) rfl scLaw.nd (pi_tup (pv 4)) (blkOk_by (N := lawN) (sc := defScope sLaw) (by decide +kernel)) (fun _ _ _ _ _ => pg_tup rfl (pgs_cons (pg_name (i := 16) scLaw.nd rfl (Or.inl rfl)) (pgs_cons (pg_name (i := 17) scLaw.nd rfl (Or.inl rfl)) pgs_nil))) (fun _ _ _ _ _ => pts_nil) (fun _ _ _ _ _ => pe_tup (pa_cons (pv 17) (pa_cons (pv 16) pa_nil)))) pa_nil)) pa_nil))))
      (C8.pss_cut (ps_if (PW.pt (pw_or (pt_cmpR op_ne (pe_call FF hr4 (by rfl) mF kF bF .nil passL (pa_cons (pv 8) (pa_cons (pv 5) pa_nil))) (pe_call FF hr4 (by rfl) mF kF bF .nil passL (pa_cons (pv 12) (pa_cons (pv 5) pa_nil))) (nomark _)) (pw_or1 (pt_cmpR op_ne (pe_call FE hr3 (by rfl) mE kE bE .nil passL (pa_cons (pv 8) (pa_cons (pv 5) (pa_cons (pv 11) pa_nil)))) (pe_call FE hr3 (by rfl) mE kE bE .nil passL (pa_cons (pv 12) (pa_cons (pv 11) (pa_cons (pv 5) pa_nil)))) (nomark _))))) (pss_one (ps_ret pe_bl)) pss_nil)
      (pss_cons (ps_set (i := 10) scLaw.nd rfl (Or.inr rfl) (C8.pe_c cN hr (by decide) (by rfl) (pa_cons (pv 1) (pa_cons (pv 5) pa_nil))))
      (pss_cons (ps_set (i := 9) scLaw.nd rfl (Or.inl rfl) (pe_lst (pa_cons (pe_lamcall (T := [(PL, lamQ)]) (TT := TTword CN) (a := "call") (k := 4) (t := fun E => tCall (spForm K CW CN) [] E (tCons (tVar 12) (tCons (tVar 10) tNil))) (by rfl) mw kw lw cdw bw scWord rfl (Or.inl rfl) (word_gives T WC) TB rfl (List.mem_singleton.mpr rfl) (fun p hp _ => by rw [List.mem_singleton.mp hp] <;> rfl) hr (lamS_by (sc := defScope sLaw) (by decide +kernel)) rfl (fun _ _ _ _ _ => rfl)
          (fun A outer s H E f c' hr' => pe_call FF hr' (by rfl) mF kF bF .nil (passes_call (takes_of rfl rfl rfl rfl) (fun _ _ _ _ h => h)) (pa_cons (pv 12) (pa_cons (pv 10) pa_nil)))) pa_nil)))
      (pss_cons (ps_expr (pe_bm PySem.F.plainAttrs_list PySem.F.slot_list_append PySem.F.type_list_append mt_append (pv 9) (pa_cons (pe_lamcall (T := [(PL, lamQ)]) (TT := TTword CN) (a := "call") (k := 4) (t := fun E => tCall (spEul K CW CN) [] E (tCons (tVar 12) (tCons (tVar 10) (tCons (tVar 11) tNil)))) (by rfl) mw kw lw cdw bw scWord rfl (Or.inl rfl) (word_gives T WC) TB rfl (List.mem_singleton.mpr rfl) (fun p hp _ => by rw [List.mem_singleton.mp hp] <;> rfl) hr (lamS_by (sc := defScope sLaw) (by decide +kernel)) rfl (fun _ _ _ _ _ => rfl)
          (fun A outer s H E f c' hr' => pe_call FE (hr'.mono (by decide)) (by rfl) mE kE bE .nil (passes_call (takes_of rfl rfl rfl rfl) (fun _ _ _ _ h => h)) (pa_cons (pv 12) (pa_cons (pv 10) (pa_cons (pv 11) pa_nil))))) pa_nil)))
      (pss_cons (ps_expr (pe_bm PySem.F.plainAttrs_list PySem.F.slot_list_append PySem.F.type_list_append mt_append (pv 9) (pa_cons (pe_lamcall (T := [(PL, lamQ)]) (TT := TTword CN) (a := "call") (k := 4) (t := fun E => tCall (spEul K CW CN) [] E (tCons (tVar 12) (tCons (tVar 11) (tCons (tVar 10) tNil)))) (by rfl) mw kw lw cdw bw scWord rfl (Or.inl rfl) (word_gives T WC) TB rfl (List.mem_singleton.mpr rfl) (fun p hp _ => by rw [List.mem_singleton.mp hp] <;> rfl) hr (lamS_by (sc := defScope sLaw) (by decide +kernel)) rfl (fun _ _ _ _ _ => rfl)
          (fun A outer s H E f c' hr' => pe_call FE (hr'.mono (by decide)) (by rfl) mE kE bE .nil (passes_call (takes_of rfl rfl rfl rfl) (fun _ _ _ _ h => h)) (pa_cons (pv 12) (pa_cons (pv 11) (pa_cons (pv 10) pa_nil))))) pa_nil)))
      (pss_one (ps_if (pt_cmpR (op_neD hr.units) (pv 9) (pe_op op_rep (pe_lst (pa_cons pe_str pa_nil)) pe_int) (nomark _)) (pss_one (ps_ret pe_bl)) pss_nil))))))))))))))))
    (pss_one (ps_ret pe_bl))), ?_⟩
    refine ⟨_, rfl, s0, ns, rfl, hS, hlen, fun r H1 e1 pot => ?_⟩
    have tb1 : Tabs [(PL, lamQ)] H1 := fun q hq => by
      rw [List.mem_singleton.mp hq]
      exact TabS.nil (e1 _ _ hPL)
    refine ⟨6, rfl, by decide, by decide, for_range (lo := 0) (n := 6) (fun i σ' H' => (∃ v2 v3 v4 v5 v6 v7 v8 v9 v10 v11 v12 : Option V, σ' = [some (.ref s0), some (.ref r), v2, v3, v4, v5, v6, v7, v8, v9, v10, v11, v12, Option.none, Option.none, Option.none, Option.none, Option.none]) ∧ PotAt H' r ∧ Tabs [(PL, lamQ)] H') ⟨⟨_, _, _, _, _, _, _, _, _, _, _, rfl⟩, pot, tb1⟩ ?_ (fun σ' H' _ => k H')⟩
    rintro i σ' H' hi ⟨⟨v2, v3, v4, v5, v6, v7, v8, v9, v10, v11, v12, rfl⟩, pot', tb⟩
    -- many, arrows, web
    refine ⟨_, rfl, r, rfl, pot', fun q b m ll H2 g2 hq hm1 hm6 at2 => ?_⟩
    refine ⟨q, _, rfl, SqT.of hq, rfl, _, _, rfl, _, _, rfl, rfl, ?_⟩
    refine ⟨_, rfl, _, rfl, ?_⟩
    refine mk_webR (by omega) (by omega) at2 fun p H3 hw e3 => ?_
    obtain ⟨Ars, rfl, ins⟩ := arrows_of at2.2.2
    have go3 : Go r H' H3 := g2.trans (Go.of_ext g2.1 e3)
    have al : Ars.length ≤ 12 := by have := at2.2.1; rw [List.length_map] at this; exact this
    refine ⟨fun σ'' H'' => ∃ (c d e : Addr) (ns1 ks ls : List Int), σ'' = [some (.ref s0), some (.ref r), some (.int (0 + (i : Nat))), some (.int m), some (.ref b), some (.ref c), some (.ref e), v7, v8, v9, v10, some (.ref d), some (.ref p), Option.none, Option.none, Option.none, Option.none, Option.none] ∧ Pu m Ars ns1 ks ls ∧ Wd CW r p b c d e m Ars ns1 ks ls H'' ∧ Tabs [(PL, lamQ)] H'', ?_, ?_⟩
    · refine ⟨_, rfl, _, rfl, r, m, rfl, go3.1, by omega, by omega, fun c ns1 H4 g4 hc rn => ?_⟩
      refine ⟨_, rfl, _, rfl, r, m, rfl, g4.1, by omega, by omega, fun d ks H5 g5 hd rk => ?_⟩
      refine ⟨_, rfl, _, rfl, r, m, rfl, g5.1, by omega, by omega, fun e ls H6 g6 he rl => ?_⟩
      refine ⟨by show 3 ≤ sizeLine; decide, fun t nt => ?_⟩
      have g36 := g4.trans (g5.trans g6)
      have e7 := Ext.upd (o := .tup [.ref c, .ref d, .ref e]) nt
      have wd6 : Wd CW r p b c d e m Ars ns1 ks ls H6 := ⟨g6.1, hw.imp (fun _ z => g36.2 _ _ (pot_no go3.1 z (fun _ y => by cases y)) z), (at2.1.ext e3).go go3.1 g36, (g5.trans g6).tup g4.1 hc, g6.tup g5.1 hd, he⟩
      exact ⟨t, _, rfl, SqT.of upd_same, rfl, _, _, rfl, _, _, rfl, _, _, rfl, rfl, c, d, e, ns1, ks, ls, rfl, ⟨hm1, hm6, al, ins, rn, rk, rl⟩, wd6.ext e7, LamX.Tabs.ext (F20.Tabs.go pot' (go3.trans g36) tb) e7⟩
    rintro σ'' H7 ⟨c, d, e, ns1, ks, ls, rfl, pu, wd7, tb7⟩
    have m8 : m ≤ 8 := by omega
    -- form of a row
    refine ⟨fun σ'' H'' => σ'' = [some (.ref s0), some (.ref r), some (.int (0 + (i : Nat))), some (.int m), some (.ref b), some (.ref c), some (.ref e), v7, v8, v9, v10, some (.ref d), some (.ref p), Option.none, Option.none, Option.none, Option.none, Option.none] ∧ Wd CW r p b c d e m Ars ns1 ks ls H'' ∧ Tabs [(PL, lamQ)] H'', ?_, ?_⟩
    · refine ⟨_, rfl, _, rfl, p, _, rfl, eul_ok wd7.web m8 wd7.arr pu.al pu.ins wd7.hc pu.rn wd7.hc pu.rn fun H8 e8 => ?_⟩
      have wd8 := wd7.ext e8
      refine ⟨_, rfl, _, rfl, _, rfl, b, c, c, m, Ars, ns1, ns1, rfl, wd8.arr, pu.ins, m8, wd8.hc, wd8.hc, pu.rn, pu.rn, fun H9 e9 => ?_⟩
      refine ⟨_, _, rfl, _, rfl, ?_⟩
      rw [decide_eq_true (rfl : eul Ars ns1 ns1 = eul Ars ns1 ns1)]
      exact iteF ⟨rfl, wd8.ext e9, tb7.ext (e8.trans e9)⟩
    rintro σ'' H8 ⟨rfl, wd8, tb8⟩
    -- euler of two
    refine ⟨fun σ'' H'' => σ'' = [some (.ref s0), some (.ref r), some (.int (0 + (i : Nat))), some (.int m), some (.ref b), some (.ref c), some (.ref e), v7, v8, v9, v10, some (.ref d), some (.ref p), Option.none, Option.none, Option.none, Option.none, Option.none] ∧ Wd CW r p b c d e m Ars ns1 ks ls H'' ∧ Tabs [(PL, lamQ)] H'', ?_, ?_⟩
    · refine ⟨_, rfl, _, rfl, _, rfl, ?_⟩
      dsimp only [tNil]
      refine eul_ok wd8.web m8 wd8.arr pu.al pu.ins wd8.hc pu.rn wd8.hd pu.rk fun H9 e9 => ?_
      have wd9 := wd8.ext e9
      refine ⟨_, rfl, _, rfl, _, rfl, b, c, d, m, Ars, ns1, ks, rfl, wd9.arr, pu.ins, m8, wd9.hc, wd9.hd, pu.rn, pu.rk, fun H10 e10 => ?_⟩
      refine ⟨_, _, rfl, _, rfl, ?_⟩
      rw [decide_eq_true (rfl : eul Ars ns1 ks = eul Ars ns1 ks)]
      exact iteF ⟨rfl, wd9.ext e10, tb8.ext (e9.trans e10)⟩
    rintro σ'' H9 ⟨rfl, wd9, tb9⟩
    -- both
    have lnk0 : ns1.length = ks.length := by
      have := pu.rn.1
      have := pu.rk.1
      omega
    have lnb : (bothL ns1 ks).length = ns1.length := bothL_len lnk0
    have n8 : ns1.length ≤ 8 := by have := pu.rn.1; omega
    refine ⟨fun σ'' H'' => ∃ t : Addr, σ'' = [some (.ref s0), some (.ref r), some (.int (0 + (i : Nat))), some (.int m), some (.ref b), some (.ref c), some (.ref e), some (.ref t), v8, v9, v10, some (.ref d), some (.ref p), Option.none, Option.none, Option.none, Option.none, Option.none] ∧ H'' t = some (.tup ((bothL ns1 ks).map V.int)) ∧ Wd CW r p b c d e m Ars ns1 ks ls H'' ∧ Tabs [(PL, lamQ)] H'', ?_, ?_⟩
    · refine ⟨_, rfl, _, rfl, c, d, _, _, rfl, .inr ⟨SqT.of wd9.hc, SqT.of wd9.hd, fun D nD => ?_⟩⟩
      refine lc_zipT (K := K) (a := c) (b := d) (xs := ns1.map V.int) (ys := ks.map V.int) (by rw [List.length_map, List.length_map, lnk0]) (fun i H'' => Ext H9 H'' ∧ H'' D = some (.lst (((bothL ns1 ks).take i).map V.int))) ⟨Ext.upd nD, upd_same⟩ (fun i H'' q => ⟨SqT.of (q.1 _ _ wd9.hc), SqT.of (q.1 _ _ wd9.hd)⟩) ?_ ?_
      · rintro i u v t H'' hu hv ⟨ex, hD⟩ nt
        obtain ⟨n, hn, rfl⟩ := map_int_get hu
        obtain ⟨k', hk, rfl⟩ := map_int_get hv
        refine ⟨t, _, rfl, SqT.of upd_same, rfl, _, _, rfl, _, _, rfl, rfl, rfl, tyes_in ?_⟩
        refine ⟨_, rfl, _, rfl, _, _, rfl, rfl, _, Ext.upd nt _ _ hD, small1000 (by rw [List.length_map, List.length_take]; omega), fun b' o eo => ?_, ?_⟩
        · rw [upd_ne (ne_of_none eo nD)]
          exact Ext.upd nt _ _ (ex _ _ eo)
        · have hb : (bothL ns1 ks)[i]? = some (n + k') := by
            unfold bothL
            rw [List.getElem?_map, List.getElem?_zip_eq_some.mpr (show ns1[i]? = some (n, k').1 ∧ ks[i]? = some (n, k').2 from ⟨hn, hk⟩)]
            rfl
          rw [upd_same, List.take_succ, hb, List.map_append]
          rfl
      · rintro H'' ⟨ex, hD⟩
        rw [List.length_map, ← lnb, List.take_of_length_le (Nat.le_refl _)] at hD
        refine ⟨D, _, rfl, .inl ⟨SqL.of hD, fun t nt => ?_⟩⟩
        exact ⟨t, rfl, upd_same, wd9.ext (ex.trans (Ext.upd nt)), tb9.ext (ex.trans (Ext.upd nt))⟩
    rintro σ'' H10 ⟨t, rfl, ht, wd10, tb10⟩
    -- euler of a sum
    refine ⟨fun σ'' H'' => σ'' = [some (.ref s0), some (.ref r), some (.int (0 + (i : Nat))), some (.int m), some (.ref b), some (.ref c), some (.ref e), some (.ref t), v8, v9, v10, some (.ref d), some (.ref p), Option.none, Option.none, Option.none, Option.none, Option.none] ∧ Wd CW r p b c d e m Ars ns1 ks ls H'' ∧ Tabs [(PL, lamQ)] H'', ?_, ?_⟩
    · refine ⟨_, rfl, t, rfl, ⟨_, SqT.of ht⟩, fun D nD => ?_⟩
      refine lc_tup (K := K) (a := t) (xs := (bothL ns1 ks).map V.int) (fun i H'' => H'' = upd H10 D (.lst (((absL (bothL ns1 ks)).take i).map V.int))) (by simp) (fun i H'' _ q => by rw [q]; exact SqT.of (Ext.upd nD _ _ ht)) ?_ ?_
      · rintro i u H'' hu rfl
        obtain ⟨n, hn, rfl⟩ := map_int_get hu
        refine ⟨rfl, tyes_in ⟨_, rfl, n, rfl, _, upd_same, small1000 (by rw [List.length_map, List.length_take]; have : (absL (bothL ns1 ks)).length = (bothL ns1 ks).length := List.length_map ..; omega), ?_⟩⟩
        have hb : (absL (bothL ns1 ks))[i]? = some (if n < 0 then -n else n) := by
          unfold absL
          rw [List.getElem?_map, hn]
          rfl
        rw [upd_upd, List.take_succ, hb, List.map_append]
        rfl
      · rintro H'' rfl
        have la : (absL (bothL ns1 ks)).length = (bothL ns1 ks).length := List.length_map ..
        rw [List.length_map, ← la, List.take_of_length_le (Nat.le_refl _)]
        have ex : Ext H10 (upd H10 D (.lst ((absL (bothL ns1 ks)).map V.int))) := Ext.upd nD
        have n1 : 1 ≤ ns1.length := by have := pu.rn.1; omega
        refine ⟨D, absL (bothL ns1 ks), rfl, SqL.of upd_same, by omega, fun t9 _ mx => ?_⟩
        generalize upd H10 D (.lst ((absL (bothL ns1 ks)).map V.int)) = H11 at *
        have wd11 := wd10.ext ex
        refine ⟨_, _, rfl, rfl, _, rfl, ?_⟩
        refine ite2 (fun z => ?_) (fun _ => ⟨rfl, wd11, tb10.ext ex⟩)
        have rb : RowL m (bothL ns1 ks) := absL_row (by rw [lnb]; exact pu.rn.1) (of_decide_eq_true z) mx
        refine ⟨_, rfl, _, rfl, _, rfl, ?_⟩
        dsimp only [tNil]
        refine eul_ok wd11.web m8 wd11.arr pu.al pu.ins (ex _ _ ht) rb wd11.he pu.rl fun H12 e12 => ?_
        have wd12 := wd11.ext e12
        refine ⟨_, rfl, _, rfl, _, rfl, ?_⟩
        dsimp only [tNil]
        refine eul_ok wd12.web m8 wd12.arr pu.al pu.ins wd12.hc pu.rn wd12.he pu.rl fun H13 e13 => ?_
        have wd13 := wd12.ext e13
        refine ⟨_, rfl, _, rfl, _, rfl, ?_⟩
        dsimp only [tNil]
        refine eul_ok wd13.web m8 wd13.arr pu.al pu.ins wd13.hd pu.rk wd13.he pu.rl fun H14 e14 => ?_
        refine ⟨_, _, rfl, rfl, rfl, _, rfl, ?_⟩
        rw [decI, eul_add lnk0, decide_eq_true (rfl : eul Ars ns1 ls + eul Ars ks ls = eul Ars ns1 ls + eul Ars ks ls)]
        exact iteF ⟨rfl, wd13.ext e14, tb10.ext (ex.trans (e12.trans (e13.trans e14)))⟩
    rintro σ'' H11 ⟨rfl, wd11, tb11⟩
    -- mirrored
    have insS := inside_swap pu.ins
    refine ⟨fun σ'' H'' => ∃ p2 b2 : Addr, σ'' = [some (.ref s0), some (.ref r), some (.int (0 + (i : Nat))), some (.int m), some (.ref b), some (.ref c), some (.ref e), some (.ref t), some (.ref p2), v9, v10, some (.ref d), some (.ref p), Option.none, Option.none, Option.none, Option.none, Option.none] ∧ WebAt CW H'' p2 m b2 ∧ TT H'' b2 ((Ars.map swap).map arL) ∧ Wd CW r p b c d e m Ars ns1 ks ls H'' ∧ Tabs [(PL, lamQ)] H'', ?_, ?_⟩
    · obtain ⟨as, hb, pt⟩ := wd11.arr
      refine ⟨_, rfl, _, rfl, b, rfl, ⟨_, SqT.of hb⟩, fun D nD => ?_⟩
      refine lc_tup (K := K) (a := b) (xs := as.map V.ref) (fun i H'' => Ext H11 H'' ∧ ∃ bs : List Addr, H'' D = some (.lst (bs.map V.ref)) ∧ PT2 H'' bs (((Ars.map swap).take i).map arL) ∧ bs.length ≤ i) ⟨Ext.upd nD, [], upd_same, .nil, Nat.le_refl _⟩ (fun i H'' _ q => SqT.of (q.1 _ _ hb)) ?_ ?_
      · rintro i z H'' hz ⟨ex, bs, hD, pb, lb⟩
        obtain ⟨q, a, rfl, ha, hq⟩ := TT.arrow pt hz
        have hi := (List.getElem?_eq_some_iff.mp ha).1
        have al := pu.al
        refine ⟨q, _, rfl, SqT.of (ex _ _ hq), rfl, _, _, rfl, _, _, rfl, rfl, rfl, tyes_in ?_⟩
        refine ⟨_, rfl, _, rfl, by show 2 ≤ sizeLine; decide, fun t nt => ?_⟩
        refine ⟨_, Ext.upd nt _ _ hD, small1000 (by rw [List.length_map]; omega), fun b' o eo => ?_, bs ++ [t], ?_, ?_, by rw [List.length_append]; exact Nat.succ_le_succ lb⟩
        · rw [upd_ne (ne_of_none eo nD)]
          exact Ext.upd nt _ _ (ex _ _ eo)
        · rw [upd_same, List.map_append]
          rfl
        · have ntD : t ≠ D := (ne_of_none hD nt).symm
          have ha' : (Ars.map swap)[i]? = some (swap a) := by rw [List.getElem?_map, ha]; rfl
          rw [List.take_succ, ha', List.map_append]
          refine PT2.snoc (l := arL (swap a)) (PT2.mono (fun c xs z => ?_) pb) ?_
          · rw [upd_ne (lst_ne hD z)]
            exact Ext.upd nt _ _ z
          · rw [upd_ne ntD, upd_same]
            rfl
      · rintro H'' ⟨ex, bs, hD, pb, lb⟩
        have len : (as.map V.ref).length = (Ars.map swap).length := by rw [List.length_map, PT2.len pt, List.length_map, List.length_map]
        rw [len, List.take_of_length_le (Nat.le_refl _)] at pb
        refine ⟨D, _, rfl, .inl ⟨SqL.of hD, fun u nu => ?_⟩⟩
        have e12 := ex.trans (Ext.upd (o := .tup (bs.map V.ref)) nu)
        have tt2 : TT (upd H'' u (.tup (bs.map V.ref))) u ((Ars.map swap).map arL) := ⟨bs, upd_same, PT2.mono (fun c xs z => Ext.upd nu _ _ z) pb⟩
        have at3 : AT (upd H'' u (.tup (bs.map V.ref))) m u ((Ars.map swap).map arL) := ⟨tt2, by rw [List.length_map, List.length_map]; exact pu.al, arrL_of insS⟩
        refine mk_webR hm1 m8 at3 fun p2 H13 hw2 e13 => ?_
        exact ⟨p2, u, rfl, hw2, tt2.ext e13, wd11.ext (e12.trans e13), tb11.ext (e12.trans e13)⟩
    rintro σ'' H12 ⟨p2, b2, rfl, hw2, tt2, wd12, tb12⟩
    have al2 : (Ars.map swap).length ≤ 12 := by rw [List.length_map]; exact pu.al
    refine ⟨fun σ'' H'' => σ'' = [some (.ref s0), some (.ref r), some (.int (0 + (i : Nat))), some (.int m), some (.ref b), some (.ref c), some (.ref e), some (.ref t), some (.ref p2), v9, v10, some (.ref d), some (.ref p), Option.none, Option.none, Option.none, Option.none, Option.none] ∧ Wd CW r p b c d e m Ars ns1 ks ls H'' ∧ Tabs [(PL, lamQ)] H'', ?_, ?_⟩
    · refine ⟨_, rfl, _, rfl, p2, _, rfl, eul_ok hw2 m8 tt2 al2 insS wd12.hc pu.rn wd12.hc pu.rn fun H13 e13 => ?_⟩
      have wd13 := wd12.ext e13
      refine ⟨_, rfl, _, rfl, p, _, rfl, eul_ok wd13.web m8 wd13.arr pu.al pu.ins wd13.hc pu.rn wd13.hc pu.rn fun H14 e14 => ?_⟩
      refine ⟨rfl, _, rfl, ?_⟩
      rw [decI, eul_swap, decide_eq_true (rfl : eul Ars ns1 ns1 = eul Ars ns1 ns1)]
      have e1314 := e13.trans e14
      have wd14 := wd13.ext e14
      refine iteF ⟨_, rfl, _, rfl, _, rfl, ?_⟩
      dsimp only [tNil]
      refine eul_ok (hw2.ext e1314) m8 (tt2.ext e1314) al2 insS wd14.hc pu.rn wd14.hd pu.rk fun H15 e15 => ?_
      have wd15 := wd14.ext e15
      refine ⟨_, rfl, _, rfl, _, rfl, ?_⟩
      dsimp only [tNil]
      refine eul_ok wd15.web m8 wd15.arr pu.al pu.ins wd15.hd pu.rk wd15.hc pu.rn fun H16 e16 => ?_
      refine ⟨rfl, _, rfl, ?_⟩
      rw [decI, eul_swap, decide_eq_true (rfl : eul Ars ks ns1 = eul Ars ks ns1)]
      exact iteF ⟨rfl, wd15.ext e16, tb12.ext (e1314.trans (e15.trans e16))⟩
    rintro σ'' H13 ⟨rfl, wd13, tb13⟩
    -- what is no row
    refine ⟨_, rfl, _, rfl, r, c, ns1, rfl, wd13.pot, wd13.hc, by have := pu.rn.1; omega, n8, fun x H14 g14 nr => ?_⟩
    have wd14 := wd13.go g14
    have tb14 := F20.Tabs.go wd13.pot g14 tb13
    rw [pu.rn.1] at nr
    have tx : ∀ {Hx}, ExtN H14 Hx → Th K Hx 1 x := fun z => nr.1.ext (off_extN z)
    have no : ∀ {Hx}, ExtN H14 Hx → ¬ isRow Hx m x := fun z y => nr.2 (y.back (off_extN z) nr.1)
    refine ⟨tb14, fun H15 x15 tb15 => ⟨_, rfl, _, rfl, p, x, rfl, eul_bad (wd14.extN x15).web m8 (wd14.extN x15).arr pu.al pu.ins (tx x15) (tx x15) (fun z => no x15 z.1) fun H16 e16 => ⟨rfl, rfl, fun H17 e17 => ⟨by show 1 ≤ sizeLine; decide, fun l nl => ?_⟩⟩⟩⟩
    have x17 := x15.trans (ExtN.of (e16.trans e17))
    have fr : ∀ b u, H14 b = some u → (∀ ps, u ≠ .tbl ps) → b ≠ l := fun b u h n => ne_of_none (x17 _ _ h n) nl
    have x18 := extN_put (o := .lst [.str "row"]) x17 fr
    have tb18 := (tb15.ext (e16.trans e17)).ext (Ext.upd (o := .lst [.str "row"]) nl)
    have hl18 : (upd H17 l (.lst [.str "row"])) l = some (.lst [.str "row"]) := upd_same
    generalize upd H17 l (.lst [.str "row"]) = H18 at *
    have wd18 := wd14.extN x18
    refine ⟨_, rfl, .inl ⟨rfl, _, SqL.of hl18⟩, tb18, fun H19 x19 tb19 => ?_⟩
    have y19 := x18.trans x19
    have wd19 := wd14.extN y19
    refine ⟨_, rfl, _, rfl, _, rfl, ?_⟩
    dsimp only [tNil]
    refine eul_bad wd19.web m8 wd19.arr pu.al pu.ins (tx y19) (row_th wd19.hd) (fun z => no y19 z.1) fun H20 e20 => ⟨rfl, rfl, fun H21 e21 => ?_⟩
    have y21 := y19.trans (ExtN.of (e20.trans e21))
    have hl21 : H21 l = some (.lst [.str "row"]) := (e20.trans e21) _ _ (x19 _ _ hl18 fun _ z => by cases z)
    refine ⟨l, _, _, rfl, rfl, hl21, by decide, ?_⟩
    have x22 := extN_put (o := .lst ([.str "row"] ++ [.str "row"])) y21 fr
    have tb22 := F20.Tabs.put (ys := [.str "row"] ++ [.str "row"]) hl21 (tb19.ext (e20.trans e21))
    have hl22 : (upd H21 l (.lst ([.str "row"] ++ [.str "row"]))) l = some (.lst [.str "row", .str "row"]) := upd_same
    generalize upd H21 l (.lst ([.str "row"] ++ [.str "row"])) = H22 at *
    refine ⟨_, rfl, .inl ⟨rfl, _, SqL.of hl22⟩, tb22, fun H23 x23 tb23 => ?_⟩
    have y23 := x22.trans x23
    have wd23 := wd14.extN y23
    refine ⟨_, rfl, _, rfl, _, rfl, ?_⟩
    dsimp only [tNil]
    refine eul_bad wd23.web m8 wd23.arr pu.al pu.ins (row_th wd23.hd) (tx y23) (fun z => no y23 z.2) fun H24 e24 => ⟨rfl, rfl, fun H25 e25 => ?_⟩
    have y25 := y23.trans (ExtN.of (e24.trans e25))
    have hl25 : H25 l = some (.lst [.str "row", .str "row"]) := (e24.trans e25) _ _ (x23 _ _ hl22 fun _ z => by cases z)
    refine ⟨l, _, _, rfl, rfl, hl25, by decide, ?_⟩
    have x26 := extN_put (o := .lst ([.str "row", .str "row"] ++ [.str "row"])) y25 fr
    have tb26 := F20.Tabs.put (ys := [.str "row", .str "row"] ++ [.str "row"]) hl25 (tb23.ext (e24.trans e25))
    have hl26 : (upd H25 l (.lst ([.str "row", .str "row"] ++ [.str "row"]))) l = some (.lst [.str "row", .str "row", .str "row"]) := upd_same
    generalize upd H25 l (.lst ([.str "row", .str "row"] ++ [.str "row"])) = H26 at *
    refine ⟨_, rfl, by show 1 ≤ sizeLine; decide, fun l1 nl1 => ⟨l1, 3, _, rfl, rfl, upd_same, by decide, by decide, by decide, fun l2 nl2 => ?_⟩⟩
    have e27 := (Ext.upd (o := .lst [.str "row"]) nl1)
    have e28 := e27.trans (Ext.upd (o := .lst (List.replicate (3 : Int).toNat [V.str "row"]).flatten) nl2)
    refine three_rows (e28 _ _ hl26) upd_same ⟨_, rfl, ?_⟩
    have x28 := x26.trans (ExtN.of e28)
    exact iteF ⟨⟨_, _, _, _, _, _, _, _, _, _, _, rfl⟩, (wd14.extN x28).pot, tb26.ext e28⟩
end
end F20

set_option Elab.async false
set_option linter.all false
set_option maxRecDepth 100000
set_option maxHeartbeats 8000000
namespace F20
open PySem L2 LamX
theorem exm_self {K : PySem.W.Frag} {S : Addr} (h1 : PySem.W.subIn K (.ref S) (.type "BaseException") = some true) (h2 : PySem.W.isClsIn K S = true) (h3 : PySem.W.typeIn K (.ref S) = some (.type "type")) (h4 : PySem.W.subIn K (.ref S) (.ref S) = some true) :
    PySem.W.exmOne K (.ref S) (.ref S) = some true := by
  have h2' : (PySem.W.clsIn K S).isSome = true := h2
  unfold PySem.W.exmOne PySem.W.kitCls
  simp only [h1, h2', h3, h4, beq_self_eq_true, Bool.and_self, if_true]
theorem kit_ref {K : PySem.W.Frag} {t : Value} {C : Addr} {b : Bool} (h2 : PySem.W.isClsIn K C = true) (h3 : PySem.W.typeIn K (.ref C) = some (.type "type")) (h4 : PySem.W.subIn K (.ref C) (.ref C) = some true) (h5 : PySem.W.subIn K t (.ref C) = some b) :
    PySem.W.kitOne K t (.ref C) = some b := by
  have h2' : (PySem.W.clsIn K C).isSome = true := h2
  unfold PySem.W.kitOne PySem.W.kitCls
  by_cases e : (t == .ref C) = true
  · have e' := beq_iff_eq.mp e
    subst e'
    rw [h4] at h5
    rw [if_pos e, ← h5]
  · rw [if_neg e]
    simp only [h2', h3, h5, beq_self_eq_true, Bool.and_self, if_true]
theorem kit_tyc {K : PySem.W.Frag} {C : Addr} {s : String} {b : Bool} (h : PySem.W.kitMeta s = true) (h5 : PySem.W.subIn K (.ref C) (.type s) = some b) : PySem.W.kitOne K (.ref C) (.type s) = some b := by
  unfold PySem.W.kitOne PySem.W.kitCls
  rw [if_neg (by intro z; exact nomatch beq_iff_eq.mp z)]
  simp only [h, h5, if_true]
theorem exm_ref {K : PySem.W.Frag} {t : Value} {S : Addr} {b : Bool} (h1 : PySem.W.subIn K (.ref S) (.type "BaseException") = some true) (h2 : PySem.W.isClsIn K S = true) (h3 : PySem.W.typeIn K (.ref S) = some (.type "type")) (h4 : PySem.W.subIn K t (.ref S) = some b) :
    PySem.W.exmOne K t (.ref S) = some b := by
  have h2' : (PySem.W.clsIn K S).isSome = true := h2
  unfold PySem.W.exmOne PySem.W.kitCls
  simp only [h1, h2', h3, h4, beq_self_eq_true, Bool.and_self, if_true]
theorem all_mk {l : PySem.W.OpenLaw} {w : World} {K : PySem.W.Frag} {h : Heap} {mg : Str → Option Value} {fa : Addr} {CW CN CE f1 f2 f11 f14 f15 f16 f18 f19 f20 f21 f22 f23 f24 f25 f26 f27 f28 f29 f30 fW fI cL PL : Addr} (X : K.In h) (G : h.Ns mainGlobals mg) (hfa : mg "law" = some (.ref fa))
    {oc1 kV1 dc1 pm1 cd1 ct1 : Value} {od1 an1 : Option Addr} {sl1 : Array (Option Value)}
    {oc2 kV2 dc2 pm2 cd2 ct2 : Value} {od2 an2 : Option Addr} {sl2 : Array (Option Value)}
    {oc11 kV11 dc11 pm11 cd11 ct11 : Value} {od11 an11 : Option Addr} {sl11 : Array (Option Value)}
    {oc14 kV14 dc14 pm14 cd14 ct14 : Value} {od14 an14 : Option Addr} {sl14 : Array (Option Value)}
    {oc15 kV15 dc15 pm15 cd15 ct15 : Value} {od15 an15 : Option Addr} {sl15 : Array (Option Value)}
    {oc16 kV16 dc16 pm16 cd16 ct16 : Value} {od16 an16 : Option Addr} {sl16 : Array (Option Value)}
    {oc18 kV18 dc18 pm18 cd18 ct18 : Value} {od18 an18 : Option Addr} {sl18 : Array (Option Value)}
    {oc19 kV19 dc19 pm19 cd19 ct19 : Value} {od19 an19 : Option Addr} {sl19 : Array (Option Value)}
    {oc20 kV20 dc20 pm20 cd20 ct20 : Value} {od20 an20 : Option Addr} {sl20 : Array (Option Value)}
    {oc21 kV21 dc21 pm21 cd21 ct21 : Value} {od21 an21 : Option Addr} {sl21 : Array (Option Value)}
    {oc22 kV22 dc22 pm22 cd22 ct22 : Value} {od22 an22 : Option Addr} {sl22 : Array (Option Value)}
    {oc23 kV23 dc23 pm23 cd23 ct23 : Value} {od23 an23 : Option Addr} {sl23 : Array (Option Value)}
    {oc24 kV24 dc24 pm24 cd24 ct24 : Value} {od24 an24 : Option Addr} {sl24 : Array (Option Value)}
    {oc25 kV25 dc25 pm25 cd25 ct25 : Value} {od25 an25 : Option Addr} {sl25 : Array (Option Value)}
    {oc26 kV26 dc26 pm26 cd26 ct26 : Value} {od26 an26 : Option Addr} {sl26 : Array (Option Value)}
    {oc27 kV27 dc27 pm27 cd27 ct27 : Value} {od27 an27 : Option Addr} {sl27 : Array (Option Value)}
    {oc28 kV28 dc28 pm28 cd28 ct28 : Value} {od28 an28 : Option Addr} {sl28 : Array (Option Value)}
    {oc29 kV29 dc29 pm29 cd29 ct29 : Value} {od29 an29 : Option Addr} {sl29 : Array (Option Value)}
    {oc30 kV30 dc30 pm30 ct30 : Value} {od30 an30 : Option Addr} {sl30 : Array (Option Value)}
    {ocW kVW dcW pmW cdW ctW : Value} {odW anW : Option Addr} {slW : Array (Option Value)}
    {ocI kVI dcI pmI cdI ctI : Value} {odI anI : Option Addr} {slI : Array (Option Value)}
    {tMOST_PLACES}
    {tMOST_ARROWS}
    {tMOST_ITEM}
    {nmCN qCN : Str} {NCN : Addr} {bsCN bmCN : List Value} {snCN : List Str} {subCN : List Value} {abCN : Bool} {colCN : Option Bool} {ddCN : Option Addr} {m0CN m1CN m2CN m3CN m5CN : Option Value}
    (gCW : PySem.W.nsIn K mainGlobals "Web" = some (some (.ref CW)))
    (gCN : PySem.W.nsIn K mainGlobals "NoRow" = some (some (.ref CN)))
    (gCE : PySem.W.nsIn K mainGlobals "WebError" = some (some (.ref CE)))
    (a1 : PySem.W.nsIn K mainGlobals "is_integer" = some (some (.ref f1)))
    (l1 : K.lookup f1 = some ⟨oc1, od1, .func (PySem.W.fnOf "is_integer" "is_integer" (defArgs sInteger) (defBody sInteger) (defScope sInteger) .none kV1 dc1 pm1 an1 cd1 ct1), sl1⟩)
    (c1 : PySem.W.codeIn K cd1 "is_integer" = true)
    (k1 : PySem.W.keepIn K (.ref f1) = true)
    (a2 : PySem.W.nsIn K mainGlobals "is_number" = some (some (.ref f2)))
    (l2 : K.lookup f2 = some ⟨oc2, od2, .func (PySem.W.fnOf "is_number" "is_number" (defArgs sNumber) (defBody sNumber) (defScope sNumber) .none kV2 dc2 pm2 an2 cd2 ct2), sl2⟩)
    (c2 : PySem.W.codeIn K cd2 "is_number" = true)
    (k2 : PySem.W.keepIn K (.ref f2) = true)
    (a11 : PySem.W.nsIn K mainGlobals "is_arrow" = some (some (.ref f11)))
    (l11 : K.lookup f11 = some ⟨oc11, od11, .func (PySem.W.fnOf "is_arrow" "is_arrow" (defArgs sArrow) (defBody sArrow) (defScope sArrow) .none kV11 dc11 pm11 an11 cd11 ct11), sl11⟩)
    (c11 : PySem.W.codeIn K cd11 "is_arrow" = true)
    (k11 : PySem.W.keepIn K (.ref f11) = true)
    (a14 : PySem.W.nsIn K mainGlobals "is_row" = some (some (.ref f14)))
    (l14 : K.lookup f14 = some ⟨oc14, od14, .func (PySem.W.fnOf "is_row" "is_row" (defArgs sRow) (defBody sRow) (defScope sRow) .none kV14 dc14 pm14 an14 cd14 ct14), sl14⟩)
    (c14 : PySem.W.codeIn K cd14 "is_row" = true)
    (k14 : PySem.W.keepIn K (.ref f14) = true)
    (a15 : PySem.W.nsIn K mainGlobals "euler" = some (some (.ref f15)))
    (l15 : K.lookup f15 = some ⟨oc15, od15, .func (PySem.W.fnOf "euler" "euler" (defArgs sEul) (defBody sEul) (defScope sEul) .none kV15 dc15 pm15 an15 cd15 ct15), sl15⟩)
    (c15 : PySem.W.codeIn K cd15 "euler" = true)
    (k15 : PySem.W.keepIn K (.ref f15) = true)
    (a16 : PySem.W.nsIn K mainGlobals "form" = some (some (.ref f16)))
    (l16 : K.lookup f16 = some ⟨oc16, od16, .func (PySem.W.fnOf "form" "form" (defArgs sForm) (defBody sForm) (defScope sForm) .none kV16 dc16 pm16 an16 cd16 ct16), sl16⟩)
    (c16 : PySem.W.codeIn K cd16 "form" = true)
    (k16 : PySem.W.keepIn K (.ref f16) = true)
    (a18 : PySem.W.nsIn K mainGlobals "_law_purse" = some (some (.ref f18)))
    (l18 : K.lookup f18 = some ⟨oc18, od18, .func (PySem.W.fnOf "_law_purse" "_law_purse" (defArgs sPurse) (defBody sPurse) (defScope sPurse) .none kV18 dc18 pm18 an18 cd18 ct18), sl18⟩)
    (c18 : PySem.W.codeIn K cd18 "_law_purse" = true)
    (k18 : PySem.W.keepIn K (.ref f18) = true)
    (a19 : PySem.W.nsIn K mainGlobals "_law_part" = some (some (.ref f19)))
    (l19 : K.lookup f19 = some ⟨oc19, od19, .func (PySem.W.fnOf "_law_part" "_law_part" (defArgs sDraw) (defBody sDraw) (defScope sDraw) .none kV19 dc19 pm19 an19 cd19 ct19), sl19⟩)
    (c19 : PySem.W.codeIn K cd19 "_law_part" = true)
    (k19 : PySem.W.keepIn K (.ref f19) = true)
    (a20 : PySem.W.nsIn K mainGlobals "_law_one" = some (some (.ref f20)))
    (l20 : K.lookup f20 = some ⟨oc20, od20, .func (PySem.W.fnOf "_law_one" "_law_one" (defArgs sAny) (defBody sAny) (defScope sAny) .none kV20 dc20 pm20 an20 cd20 ct20), sl20⟩)
    (c20 : PySem.W.codeIn K cd20 "_law_one" = true)
    (k20 : PySem.W.keepIn K (.ref f20) = true)
    (a21 : PySem.W.nsIn K mainGlobals "_law_mixed" = some (some (.ref f21)))
    (l21 : K.lookup f21 = some ⟨oc21, od21, .func (PySem.W.fnOf "_law_mixed" "_law_mixed" (defArgs sMixed) (defBody sMixed) (defScope sMixed) .none kV21 dc21 pm21 an21 cd21 ct21), sl21⟩)
    (c21 : PySem.W.codeIn K cd21 "_law_mixed" = true)
    (k21 : PySem.W.keepIn K (.ref f21) = true)
    (a22 : PySem.W.nsIn K mainGlobals "_law_any_web" = some (some (.ref f22)))
    (l22 : K.lookup f22 = some ⟨oc22, od22, .func (PySem.W.fnOf "_law_any_web" "_law_any_web" (defArgs sAnyW) (defBody sAnyW) (defScope sAnyW) .none kV22 dc22 pm22 an22 cd22 ct22), sl22⟩)
    (c22 : PySem.W.codeIn K cd22 "_law_any_web" = true)
    (k22 : PySem.W.keepIn K (.ref f22) = true)
    (a23 : PySem.W.nsIn K mainGlobals "_law_word" = some (some (.ref f23)))
    (l23 : K.lookup f23 = some ⟨oc23, od23, .func (PySem.W.fnOf "_law_word" "_law_word" (defArgs sWord) (defBody sWord) (defScope sWord) .none kV23 dc23 pm23 an23 cd23 ct23), sl23⟩)
    (c23 : PySem.W.codeIn K cd23 "_law_word" = true)
    (k23 : PySem.W.keepIn K (.ref f23) = true)
    (a24 : PySem.W.nsIn K mainGlobals "_law_deep" = some (some (.ref f24)))
    (l24 : K.lookup f24 = some ⟨oc24, od24, .func (PySem.W.fnOf "_law_deep" "_law_deep" (defArgs sDeep) (defBody sDeep) (defScope sDeep) .none kV24 dc24 pm24 an24 cd24 ct24), sl24⟩)
    (c24 : PySem.W.codeIn K cd24 "_law_deep" = true)
    (k24 : PySem.W.keepIn K (.ref f24) = true)
    (a25 : PySem.W.nsIn K mainGlobals "_law_odd" = some (some (.ref f25)))
    (l25 : K.lookup f25 = some ⟨oc25, od25, .func (PySem.W.fnOf "_law_odd" "_law_odd" (defArgs sOdd) (defBody sOdd) (defScope sOdd) .none kV25 dc25 pm25 an25 cd25 ct25), sl25⟩)
    (c25 : PySem.W.codeIn K cd25 "_law_odd" = true)
    (k25 : PySem.W.keepIn K (.ref f25) = true)
    (a26 : PySem.W.nsIn K mainGlobals "_law_row" = some (some (.ref f26)))
    (l26 : K.lookup f26 = some ⟨oc26, od26, .func (PySem.W.fnOf "_law_row" "_law_row" (defArgs sRowL) (defBody sRowL) (defScope sRowL) .none kV26 dc26 pm26 an26 cd26 ct26), sl26⟩)
    (c26 : PySem.W.codeIn K cd26 "_law_row" = true)
    (k26 : PySem.W.keepIn K (.ref f26) = true)
    (a27 : PySem.W.nsIn K mainGlobals "_law_no_row" = some (some (.ref f27)))
    (l27 : K.lookup f27 = some ⟨oc27, od27, .func (PySem.W.fnOf "_law_no_row" "_law_no_row" (defArgs sNoRow) (defBody sNoRow) (defScope sNoRow) .none kV27 dc27 pm27 an27 cd27 ct27), sl27⟩)
    (c27 : PySem.W.codeIn K cd27 "_law_no_row" = true)
    (k27 : PySem.W.keepIn K (.ref f27) = true)
    (a28 : PySem.W.nsIn K mainGlobals "_law_is" = some (some (.ref f28)))
    (l28 : K.lookup f28 = some ⟨oc28, od28, .func (PySem.W.fnOf "_law_is" "_law_is" (defArgs sIsI) (defBody sIsI) (defScope sIsI) .none kV28 dc28 pm28 an28 cd28 ct28), sl28⟩)
    (c28 : PySem.W.codeIn K cd28 "_law_is" = true)
    (k28 : PySem.W.keepIn K (.ref f28) = true)
    (a29 : PySem.W.nsIn K mainGlobals "_law_summed" = some (some (.ref f29)))
    (l29 : K.lookup f29 = some ⟨oc29, od29, .func (PySem.W.fnOf "_law_summed" "_law_summed" (defArgs sSummed) (defBody sSummed) (defScope sSummed) .none kV29 dc29 pm29 an29 cd29 ct29), sl29⟩)
    (c29 : PySem.W.codeIn K cd29 "_law_summed" = true)
    (k29 : PySem.W.keepIn K (.ref f29) = true)
    (a30 : PySem.W.nsIn K mainGlobals "law" = some (some (.ref f30)))
    (l30 : K.lookup f30 = some ⟨oc30, od30, .func (PySem.W.fnOf "law" "law" (defArgs sLaw) (defBody sLaw) (defScope sLaw) .none kV30 dc30 pm30 an30 (.ref cL) ct30), sl30⟩)
    (c30 : PySem.W.codeIn K (.ref cL) "law" = true)
    (k30 : PySem.W.keepIn K (.ref f30) = true)
    (aW : PySem.W.findIn K (.ref CW) "__init__" = some (some (.ref fW)))
    (iW : PySem.W.isFn K (.ref fW) = true)
    (lW : K.lookup fW = some ⟨ocW, odW, .func (PySem.W.fnOf "__init__" "Web.__init__" (defArgs sWebI) (defBody sWebI) (defScope sWebI) .none kVW dcW pmW anW cdW ctW), slW⟩)
    (cW : PySem.W.codeIn K cdW "Web.__init__" = true)
    (kW : PySem.W.keepIn K (.ref fW) = true)
    (tW : PySem.W.typeIn K (.ref fW) = some (.type "function"))
    (aI : PySem.W.findIn K (.ref CN) "__init__" = some (some (.ref fI)))
    (iI : PySem.W.isFn K (.ref fI) = true)
    (lI : K.lookup fI = some ⟨ocI, odI, .func (PySem.W.fnOf "__init__" "WebError.__init__" (defArgs sWE) (defBody sWE) (defScope sWE) .none kVI dcI pmI anI cdI ctI), slI⟩)
    (cI : PySem.W.codeIn K cdI "WebError.__init__" = true)
    (kI : PySem.W.keepIn K (.ref fI) = true)
    (tI : PySem.W.typeIn K (.ref fI) = some (.type "function"))
    (hn : PySem.W.specialIn K (.builtin "object.__class__") "__get__" = some (some (.builtin "getset_descriptor.__get__")))
    (ht : PySem.W.takesIn K (.builtin "object.__class__") = some true)
    (pgCW : PySem.W.plainGet K CW Str.empty = true)
    (hdCW : PySem.W.hasDictIn K CW = true)
    (poCW : PySem.W.plainOver K CW = true)
    (saCW : PySem.W.findIn K (.ref CW) "__setattr__" = some (some (.builtin "object.__setattr__")))
    (mkCW : PySem.W.makesIn K CW = true)
    (kcCW : PySem.W.keepIn K (.ref CW) = true)
    (haCW : PySem.W.findIn K (.ref CW) "__class__" = some (some (.builtin "object.__class__")))
    (hmCW : PySem.W.mroIn K CW (.type "object") = some true)
    (icCW : PySem.W.isClsIn K CW = true)
    (tcCW : PySem.W.typeIn K (.ref CW) = some (.type "type"))
    (scCW : PySem.W.subIn K (.ref CW) (.ref CW) = some true)
    (nCWmany : PySem.W.findIn K (.ref CW) "many" = some none)
    (nCWarrows : PySem.W.findIn K (.ref CW) "arrows" = some none)
    (vMOST_PLACES : PySem.W.nsIn K mainGlobals "MOST_PLACES" = some (some (.int 8 tMOST_PLACES)))
    (vMOST_ARROWS : PySem.W.nsIn K mainGlobals "MOST_ARROWS" = some (some (.int 12 tMOST_ARROWS)))
    (vMOST_ITEM : PySem.W.nsIn K mainGlobals "MOST_ITEM" = some (some (.int 1000 tMOST_ITEM)))
    (xLCN : K.lookup CN = some (excClassObj nmCN qCN CN NCN bsCN bmCN true snCN subCN abCN colCN ddCN m0CN m1CN m2CN m3CN m5CN "ValueError.__new__"))
    (xbCN : PySem.HandSPX.refsVE bmCN = true)
    (seCN : PySem.W.findIn K (.ref CN) "__setattr__" = some (some (.builtin "object.__setattr__")))
    (keCN : PySem.W.keepIn K (.ref CN) = true)
    (heCN : PySem.W.hasDictIn K CN = true)
    (gaCN : PySem.W.findIn K (.ref CN) "__getattribute__" = some (some (.builtin "BaseException.__getattribute__")))
    (ggCN : PySem.W.findIn K (.ref CN) "__getattr__" = some none)
    (hxCN : PySem.W.findIn K (.ref CN) "__class__" = some (some (.builtin "object.__class__")))
    (myCN : PySem.W.mroIn K CN (.type "object") = some true)
    (exCN : PySem.W.subIn K (.ref CN) (.type "BaseException") = some true)
    (ieCN : PySem.W.isClsIn K CN = true)
    (teCN : PySem.W.typeIn K (.ref CN) = some (.type "type"))
    (ssCN : PySem.W.subIn K (.ref CN) (.ref CN) = some true)
    (exCE : PySem.W.subIn K (.ref CE) (.type "BaseException") = some true)
    (ieCE : PySem.W.isClsIn K CE = true)
    (teCE : PySem.W.typeIn K (.ref CE) = some (.type "type"))
    (ssCE : PySem.W.subIn K (.ref CE) (.ref CE) = some true)
    (sNE : PySem.W.subIn K (.ref CN) (.ref CE) = some true)
    (sNV : PySem.W.subIn K (.ref CN) (.type "ValueError") = some true)
    (zlen : PySem.W.nsIn K mainGlobals "len" = some none)
    (zint : PySem.W.nsIn K mainGlobals "int" = some none)
    (zbool : PySem.W.nsIn K mainGlobals "bool" = some none)
    (zisinstance : PySem.W.nsIn K mainGlobals "isinstance" = some none)
    (ztuple : PySem.W.nsIn K mainGlobals "tuple" = some none)
    (zall : PySem.W.nsIn K mainGlobals "all" = some none)
    (zenumerate : PySem.W.nsIn K mainGlobals "enumerate" = some none)
    (zlist : PySem.W.nsIn K mainGlobals "list" = some none)
    (zrange : PySem.W.nsIn K mainGlobals "range" = some none)
    (zmin : PySem.W.nsIn K mainGlobals "min" = some none)
    (zmax : PySem.W.nsIn K mainGlobals "max" = some none)
    (zsorted : PySem.W.nsIn K mainGlobals "sorted" = some none)
    (zset : PySem.W.nsIn K mainGlobals "set" = some none)
    (zstr : PySem.W.nsIn K mainGlobals "str" = some none)
    (zabs : PySem.W.nsIn K mainGlobals "abs" = some none)
    (zValueError : PySem.W.nsIn K mainGlobals "ValueError" = some none)
    (zsum : PySem.W.nsIn K mainGlobals "sum" = some none)
    (zzip : PySem.W.nsIn K mainGlobals "zip" = some none)
    (hP : h.get? PL = some { cls := .none, data := .fields #[] })
    (nP : K.lookup PL = none)
    (hC : PySem.W.codeHdIn K cL PL = true) :
    LawAtS l w K CX0 7 63 "script" mg fa h := by
  have e := hfa.symm.trans (PySem.W.mg_of X G a30)
  cases e
  have F1 := fun_mk (st := sInteger) l1 c1 k1
  have b1 := F1.binds (ps := ["thing"]) fun _ _ _ _ _ _ us hl => match us, hl with | [_], _ => rfl
  have F2 := fun_mk (st := sNumber) l2 c2 k2
  have b2 := F2.binds (ps := ["most", "thing"]) fun _ _ _ _ _ _ us hl => match us, hl with | [_, _], _ => rfl
  have F11 := fun_mk (st := sArrow) l11 c11 k11
  have b11 := F11.binds (ps := ["many", "thing"]) fun _ _ _ _ _ _ us hl => match us, hl with | [_, _], _ => rfl
  have F14 := fun_mk (st := sRow) l14 c14 k14
  have b14 := F14.binds (ps := ["web", "thing"]) fun _ _ _ _ _ _ us hl => match us, hl with | [_, _], _ => rfl
  have F15 := fun_mk (st := sEul) l15 c15 k15
  have b15 := F15.binds (ps := ["web", "one", "other"]) fun _ _ _ _ _ _ us hl => match us, hl with | [_, _, _], _ => rfl
  have F16 := fun_mk (st := sForm) l16 c16 k16
  have b16 := F16.binds (ps := ["web", "row"]) fun _ _ _ _ _ _ us hl => match us, hl with | [_, _], _ => rfl
  have F18 := fun_mk (st := sPurse) l18 c18 k18
  have b18 := F18.binds (ps := ["script"]) fun _ _ _ _ _ _ us hl => match us, hl with | [_], _ => rfl
  have F19 := fun_mk (st := sDraw) l19 c19 k19
  have b19 := F19.binds (ps := ["purse", "many"]) fun _ _ _ _ _ _ us hl => match us, hl with | [_, _], _ => rfl
  have F20 := fun_mk (st := sAny) l20 c20 k20
  have b20 := F20.binds (ps := ["purse", "some"]) fun _ _ _ _ _ _ us hl => match us, hl with | [_, _], _ => rfl
  have F21 := fun_mk (st := sMixed) l21 c21 k21
  have b21 := F21.binds (ps := ["purse", "some"]) fun _ _ _ _ _ _ us hl => match us, hl with | [_, _], _ => rfl
  have F22 := fun_mk (st := sAnyW) l22 c22 k22
  have b22 := F22.binds (ps := ["purse"]) fun _ _ _ _ _ _ us hl => match us, hl with | [_], _ => rfl
  have F23 := fun_mk (st := sWord) l23 c23 k23
  have b23 := F23.binds (ps := ["call"]) fun _ _ _ _ _ _ us hl => match us, hl with | [_], _ => rfl
  have F24 := fun_mk (st := sDeep) l24 c24 k24
  have b24 := F24.binds (ps := ["many"]) fun _ _ _ _ _ _ us hl => match us, hl with | [_], _ => rfl
  have F25 := fun_mk (st := sOdd) l25 c25 k25
  have b25 := F25.binds (ps := ["purse"]) fun _ _ _ _ _ _ us hl => match us, hl with | [_], _ => rfl
  have F26 := fun_mk (st := sRowL) l26 c26 k26
  have b26 := F26.binds (ps := ["purse", "many"]) fun _ _ _ _ _ _ us hl => match us, hl with | [_, _], _ => rfl
  have F27 := fun_mk (st := sNoRow) l27 c27 k27
  have b27 := F27.binds (ps := ["purse", "row"]) fun _ _ _ _ _ _ us hl => match us, hl with | [_, _], _ => rfl
  have F28 := fun_mk (st := sIsI) l28 c28 k28
  have b28 := F28.binds (ps := ["told", "due"]) fun _ _ _ _ _ _ us hl => match us, hl with | [_, _], _ => rfl
  have F29 := fun_mk (st := sSummed) l29 c29 k29
  have b29 := F29.binds (ps := ["arrows", "one", "other"]) fun _ _ _ _ _ _ us hl => match us, hl with | [_, _, _], _ => rfl
  have F30 := fun_mk (st := sLaw) l30 c30 k30
  have b30 := F30.binds (ps := ["script"]) fun _ _ _ _ _ _ us hl => match us, hl with | [_], _ => rfl
  have FW := fun_mk (st := sWebI) lW cW kW
  have bW := FW.binds (ps := ["self", "many", "arrows"]) fun _ _ _ _ _ _ us hl => match us, hl with | [_, _, _], _ => rfl
  have FI := fun_mk (st := sWE) lI cI kI
  have bI := FI.binds (ps := ["self"]) fun _ _ _ _ _ _ us hl => match us, hl with | [_], _ => rfl
  have nn : ∀ {x : Str}, PySem.W.nsIn K mainGlobals x = some none → mg x = none := fun z => PySem.W.mg_none_of X G z
  have T : Gb mg := ⟨nn zlen, nn zint, nn zbool, nn zisinstance, nn ztuple, nn zall, nn zenumerate, nn zlist, nn zrange, nn zmin, nn zmax, nn zsorted, nn zset, nn zstr, nn zabs, nn zValueError⟩
  have M : FormC mg := ⟨⟨tMOST_ITEM, PySem.W.mg_of X G vMOST_ITEM⟩, nn zsum, nn zzip⟩
  have W : WebC K mg CW := ⟨⟨pgCW, hdCW, poCW, saCW⟩, nCWmany, nCWarrows, PySem.W.mg_of X G gCW, ⟨tMOST_PLACES, PySem.W.mg_of X G vMOST_PLACES⟩, ⟨tMOST_ARROWS, PySem.W.mg_of X G vMOST_ARROWS⟩⟩
  have MW : Mk K CW fW := ⟨mkCW, aW, iW, kcCW⟩
  have N : ErrC K mg "NoRow" CN fI := ⟨⟨⟨nmCN, qCN, NCN, bsCN, bmCN, snCN, subCN, abCN, colCN, ddCN, m0CN, m1CN, m2CN, m3CN, m5CN, xLCN, xbCN⟩, seCN, exCN, teCN, keCN⟩, aI, tI, PySem.W.mg_of X G gCN, ⟨ieCN, gaCN, ggCN, exCN, hxCN, hn, ht, myCN⟩⟩
  have WC : WordC K mg CN CE fI := ⟨N, PySem.W.mg_of X G gCE, exm_ref exCE ieCE teCE sNE, kit_tyc (by decide +kernel) sNV⟩
  refine ⟨PySem.W.fnOf "law" "law" (defArgs sLaw) (defBody sLaw) (defScope sLaw) .none kV30 dc30 pm30 an30 (.ref cL) ct30, [(cL, PL)], spLaw K PL, fun p hp => by rw [List.mem_singleton.mp hp]; exact hP, fun p hp => by rw [List.mem_singleton.mp hp]; exact nP, fun p hp => by rw [List.mem_singleton.mp hp]; exact PySem.W.codeHd_of_K X hC, fun s v => .of_eq rfl, fun H a ns hl _ hT hS => ⟨a, ns, rfl, hS, hl, hT _ (List.mem_singleton.mpr rfl), fun _ => rfl⟩, fun base _ _ hTB => ?_⟩
  have TB := hTB (cL, PL) (List.mem_singleton.mpr rfl)
  have cInt : Cal l.prog w K mg base 1 "is_integer" (spInteger K) [] := ⟨⟨f1, _, _, [], ok_integer F1 T, PySem.W.mg_of X G a1, k1, b1, .nil⟩⟩
  have cNum : Cal l.prog w K mg base 2 "is_number" (spNumber K) [] := ⟨⟨f2, _, _, [], ok_number F2 cInt, PySem.W.mg_of X G a2, k2, b2, .nil⟩⟩
  have cArr : Cal l.prog w K mg base 3 "is_arrow" (spArrow K) [] := ⟨⟨f11, _, _, [], ok_arrow F11 T cNum, PySem.W.mg_of X G a11, k11, b11, .nil⟩⟩
  have cRw : Cal l.prog w K mg base 2 "is_row" (spRow K CW) [] := ⟨⟨f14, _, _, [], ok_row F14 T W M cInt, PySem.W.mg_of X G a14, k14, b14, .nil⟩⟩
  have GI : FnOk l.prog w K mg base CX0 1 fI _ ["self"] spF0 := ok_we FI
  have GE : FnOk l.prog w K mg base (L2.CX l.prog w) 3 f15 _ ["web", "one", "other"] (spEul K CW CN) := ok_eul F15 T W M N GI bI cRw
  have GF : FnOk l.prog w K mg base (L2.CX l.prog w) 4 f16 _ ["web", "row"] (spForm K CW CN) := ok_form F16 GE (PySem.W.mg_of X G a15) k15 b15
  have GW : FnOk l.prog w K mg base CX0 4 fW _ ["self", "many", "arrows"] (spWebR CW) := ok_webR FW T W cNum cArr
  have cPu : Cal l.prog w K mg base 1 "_law_purse" (spPurse K) [] := ⟨⟨f18, _, _, [], ok_purse F18 T, PySem.W.mg_of X G a18, k18, b18, .nil⟩⟩
  have cD : Cal l.prog w K mg base 1 "_law_part" spDraw [] := ⟨⟨f19, _, _, [], ok_draw F19 ⟨T.len, T.int⟩, PySem.W.mg_of X G a19, k19, b19, .nil⟩⟩
  have cA : Cal l.prog w K mg base 2 "_law_one" spAny [] := ⟨⟨f20, _, _, [], ok_any F20 T cD, PySem.W.mg_of X G a20, k20, b20, .nil⟩⟩
  have cX : Cal l.prog w K mg base 2 "_law_mixed" spMixed [] := ⟨⟨f21, _, _, [], ok_mixed F21 T cD, PySem.W.mg_of X G a21, k21, b21, .nil⟩⟩
  have cAW : Cal l.prog w K mg base 3 "_law_any_web" spAnyW [] := ⟨⟨f22, _, _, [], ok_anyW F22 T cD cX, PySem.W.mg_of X G a22, k22, b22, .nil⟩⟩
  have cDp : Cal l.prog w K mg base 1 "_law_deep" spDeep [] := ⟨⟨f24, _, _, [], ok_deep F24 T, PySem.W.mg_of X G a24, k24, b24, .nil⟩⟩
  have cOd : Cal l.prog w K mg base 3 "_law_odd" (spOddN K) [] := ⟨⟨f25, _, _, [], ok_oddN F25 T cA cDp, PySem.W.mg_of X G a25, k25, b25, .nil⟩⟩
  have cRL : Cal l.prog w K mg base 3 "_law_row" spRowL [] := ⟨⟨f26, _, _, [], ok_rowL F26 T cD cA, PySem.W.mg_of X G a26, k26, b26, .nil⟩⟩
  have cNR : Cal l.prog w K mg base 4 "_law_no_row" (spNoRow K) [] := ⟨⟨f27, _, _, [], ok_noRow F27 T cD cA cOd, PySem.W.mg_of X G a27, k27, b27, .nil⟩⟩
  have cIs : Cal l.prog w K mg base 1 "_law_is" spIsI [] := ⟨⟨f28, _, _, [], ok_isI F28 T, PySem.W.mg_of X G a28, k28, b28, .nil⟩⟩
  have cSm : Cal l.prog w K mg base 1 "_law_summed" spSummed [] := ⟨⟨f29, _, _, [], ok_summed F29 M, PySem.W.mg_of X G a29, k29, b29, .nil⟩⟩
  exact ok_law l30 c30 TB T W M WC cPu cAW cRL cIs cSm cNR MW GW bW GF (PySem.W.mg_of X G a16) k16 b16 GE (PySem.W.mg_of X G a15) k15 b15 l23 c23 (PySem.W.mg_of X G a23) k23 b23
theorem walk {l : PySem.W.OpenLaw} {q : Program} {loose : List Str} {XP : (Str → Option Value) → Heap → Prop} {YP : World → Heap → Prop} {d : DefRec} {K : Params → PySem.W.Frag} (hn : l.most = some 63) (hdf : d.params.defaults = []) (hY : ∀ (w : World) (h : Heap), YP w h → (K w.params).In h)
    (F : ∀ (w : World) (mg : Str → Option Value) (fa : Addr) (h : Heap), YP w h → (K w.params).In h → h.Ns mainGlobals mg → mg d.name = some (.ref fa) → LawAtS l w (K w.params) CX0 7 63 "script" mg fa h) :
    PySem.W.WalkO q loose XP YP l.row.toRowW d [] (fun f vs => PySem.call f vs) :=
  walk_ofTs (n := 63) (k := 7) (x := "script") (CX := fun _ => CX0) hn (by decide) hdf ⟨rfl, by decide, by decide⟩ hY F fun _ _ _ _ _ z => z
end F20

set_option Elab.async false
set_option linter.all false
open PySem PySem.W PyProof.Rows
set_option maxRecDepth 100000 in
set_option maxHeartbeats 0 in
theorem PySem.Challenge.cw_mapwebs_k20_forms_of_rows_holds : PySem.Challenge.rw_mapwebs_k20_forms_of_rows.Holds := by
  w_on; o_law; k_head; (case hw => w_witness2)
  k_fill
  refine F20.walk (l := PySem.Challenge.rw_mapwebs_k20_forms_of_rows) rfl rfl (fun w h Y => PySem.W.km_in_of Y) ?F
  case F =>
    intro w mg fa h Y KX G hmg
    have hT := PySem.W.km_tabs_of Y
    refine' F20.all_mk KX G hmg ?gCW ?gCN ?gCE ?a1 ?l1 ?c1 ?k1 ?a2 ?l2 ?c2 ?k2 ?a11 ?l11 ?c11 ?k11 ?a14 ?l14 ?c14 ?k14 ?a15 ?l15 ?c15 ?k15 ?a16 ?l16 ?c16 ?k16 ?a18 ?l18 ?c18 ?k18 ?a19 ?l19 ?c19 ?k19 ?a20 ?l20 ?c20 ?k20 ?a21 ?l21 ?c21 ?k21 ?a22 ?l22 ?c22 ?k22 ?a23 ?l23 ?c23 ?k23 ?a24 ?l24 ?c24 ?k24 ?a25 ?l25 ?c25 ?k25 ?a26 ?l26 ?c26 ?k26 ?a27 ?l27 ?c27 ?k27 ?a28 ?l28 ?c28 ?k28 ?a29 ?l29 ?c29 ?k29 ?a30 ?l30 ?c30 ?k30 ?aW ?iW ?lW ?cW ?kW ?tW ?aI ?iI ?lI ?cI ?kI ?tI ?hn ?ht ?pgCW ?hdCW ?poCW ?saCW ?mkCW ?kcCW ?haCW ?hmCW ?icCW ?tcCW ?scCW ?nCWmany ?nCWarrows ?vMOST_PLACES ?vMOST_ARROWS ?vMOST_ITEM ?xLCN ?xbCN ?seCN ?keCN ?heCN ?gaCN ?ggCN ?hxCN ?myCN ?exCN ?ieCN ?teCN ?ssCN ?exCE ?ieCE ?teCE ?ssCE ?sNE ?sNV ?zlen ?zint ?zbool ?zisinstance ?ztuple ?zall ?zenumerate ?zlist ?zrange ?zmin ?zmax ?zsorted ?zset ?zstr ?zabs ?zValueError ?zsum ?zzip ?hP ?nP ?hC
    (case gCW => k_is)
    (case gCN => k_is)
    (case gCE => k_is)
    (case a1 => k_is)
    (case l1 => k_is)
    (case c1 => k_is)
    (case k1 => k_is)
    (case a2 => k_is)
    (case l2 => k_is)
    (case c2 => k_is)
    (case k2 => k_is)
    (case a11 => k_is)
    (case l11 => k_is)
    (case c11 => k_is)
    (case k11 => k_is)
    (case a14 => k_is)
    (case l14 => k_is)
    (case c14 => k_is)
    (case k14 => k_is)
    (case a15 => k_is)
    (case l15 => k_is)
    (case c15 => k_is)
    (case k15 => k_is)
    (case a16 => k_is)
    (case l16 => k_is)
    (case c16 => k_is)
    (case k16 => k_is)
    (case a18 => k_is)
    (case l18 => k_is)
    (case c18 => k_is)
    (case k18 => k_is)
    (case a19 => k_is)
    (case l19 => k_is)
    (case c19 => k_is)
    (case k19 => k_is)
    (case a20 => k_is)
    (case l20 => k_is)
    (case c20 => k_is)
    (case k20 => k_is)
    (case a21 => k_is)
    (case l21 => k_is)
    (case c21 => k_is)
    (case k21 => k_is)
    (case a22 => k_is)
    (case l22 => k_is)
    (case c22 => k_is)
    (case k22 => k_is)
    (case a23 => k_is)
    (case l23 => k_is)
    (case c23 => k_is)
    (case k23 => k_is)
    (case a24 => k_is)
    (case l24 => k_is)
    (case c24 => k_is)
    (case k24 => k_is)
    (case a25 => k_is)
    (case l25 => k_is)
    (case c25 => k_is)
    (case k25 => k_is)
    (case a26 => k_is)
    (case l26 => k_is)
    (case c26 => k_is)
    (case k26 => k_is)
    (case a27 => k_is)
    (case l27 => k_is)
    (case c27 => k_is)
    (case k27 => k_is)
    (case a28 => k_is)
    (case l28 => k_is)
    (case c28 => k_is)
    (case k28 => k_is)
    (case a29 => k_is)
    (case l29 => k_is)
    (case c29 => k_is)
    (case k29 => k_is)
    (case a30 => k_is)
    (case l30 => k_is)
    (case c30 => k_is)
    (case k30 => k_is)
    (case aW => k_is)
    (case iW => k_is)
    (case lW => k_is)
    (case cW => k_is)
    (case kW => k_is)
    (case tW => k_is)
    (case aI => k_is)
    (case iI => k_is)
    (case lI => k_is)
    (case cI => k_is)
    (case kI => k_is)
    (case tI => k_is)
    (case hn => k_is)
    (case ht => k_is)
    (case pgCW => k_is)
    (case hdCW => k_is)
    (case poCW => k_is)
    (case saCW => k_is)
    (case mkCW => k_is)
    (case kcCW => k_is)
    (case haCW => k_is)
    (case hmCW => k_is)
    (case icCW => k_is)
    (case tcCW => k_is)
    (case scCW => first | rfl | k_is)
    (case nCWmany => k_is)
    (case nCWarrows => k_is)
    (case vMOST_PLACES => k_is)
    (case vMOST_ARROWS => k_is)
    (case vMOST_ITEM => k_is)
    (case xLCN => k_is)
    (case xbCN => decide +kernel)
    (case seCN => k_is)
    (case keCN => k_is)
    (case heCN => k_is)
    (case gaCN => k_is)
    (case ggCN => k_is)
    (case hxCN => k_is)
    (case myCN => k_is)
    (case exCN => k_is)
    (case ieCN => k_is)
    (case teCN => k_is)
    (case ssCN => first | rfl | k_is)
    (case exCE => k_is)
    (case ieCE => k_is)
    (case teCE => k_is)
    (case ssCE => first | rfl | k_is)
    (case sNE => k_is)
    (case sNV => k_is)
    (case zlen => k_is)
    (case zint => k_is)
    (case zbool => k_is)
    (case zisinstance => k_is)
    (case ztuple => k_is)
    (case zall => k_is)
    (case zenumerate => k_is)
    (case zlist => k_is)
    (case zrange => k_is)
    (case zmin => k_is)
    (case zmax => k_is)
    (case zsorted => k_is)
    (case zset => k_is)
    (case zstr => k_is)
    (case zabs => k_is)
    (case zValueError => k_is)
    (case zsum => k_is)
    (case zzip => k_is)
    (case hP => exact hT _ (List.Mem.head _))
    (case nP => first | rfl | decide +kernel | k_is)
    (case hC => first | kernel_rfl | rfl | k_is)
