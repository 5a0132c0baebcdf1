import PyProof.Rows.All
import Wide.All
import OpenK.AllK
import Wide.FinOn
import HandS.ForMost
import HandS.Codes
import PySem.Challenge.RW_mapwebs_k36_whole_reaches_told_by_strang
import HandS.IsInst
import HandS.OwnEq
import KE.KDictPairs
import HandS.DictTup
import HandS.TupLen
import HandS.Walk
import HandS.Conv
import HandS.ExcValue
import HandS.SortOrd
import HandS.SortRule
import KE.KDictSum
import HandS.ForExc
import HandS.ExcInit
import HandS.ExcField
import KE.KExcIs
import HandS.TupAny
import HandS.Zip
import HandS.Lambda
import HandS.Small
import HandS.EndTab
import KE.KNestM
set_option Elab.async false
set_option linter.all false
set_option maxRecDepth 100000
set_option maxHeartbeats 4000000
namespace R36
open PySem L2
def top (i : Nat) : Stmt := PySem.Challenge.pw_mapwebs_k36_whole_reaches_told_by_strang.main.body.getD i (.Pass ⟨0, 0, 0, 0⟩)
abbrev sDraw : Stmt := top 15
abbrev sAny : Stmt := top 16
/-- the pot stands at a: a list of the cells' list and four ints -/
def PotAt (H : Hp) (a : Addr) : Prop := ∃ (c : Addr) (ns : List Int) (i : Nat) (z s n : Int), H a = some (.lst [.ref c, .int (i : Int), .int z, .int s, .int n]) ∧ H c = some (.lst (ns.map V.int))
/-- a step that changes nothing but the pot, and makes new things -/
structure Go (a : Addr) (H H' : Hp) : Prop where
  pot : PotAt H' a
  keep : ∀ b o, b ≠ a → H b = some o → H' b = some o
  cell : ∀ (c : Addr) (xs : List V), H a = some (.lst (.ref c :: xs)) → ∃ ys, H' a = some (.lst (.ref c :: ys))
theorem Go.trans {a : Addr} {H H1 H2 : Hp} (x : Go a H H1) (y : Go a H1 H2) : Go a H H2 := ⟨y.1, fun b o n e => y.2 b o n (x.2 b o n e), fun c xs h => let ⟨ys, h'⟩ := x.3 c xs h; y.3 c ys h'⟩
theorem Go.refl {a : Addr} {H : Hp} (x : PotAt H a) : Go a H H := ⟨x, fun _ _ _ e => e, fun _ xs h => ⟨xs, h⟩⟩
theorem PotAt.ne {H : Hp} {a : Addr} (x : PotAt H a) {b : Addr} (h : H b = none) : a ≠ b := by
  obtain ⟨c, ns, i, z, s, n, h1, _⟩ := x
  exact ne_of_none h1 h
theorem PotAt.upd {H : Hp} {a : Addr} (x : PotAt H a) {b : Addr} {o : HO} (h : H b = none) : PotAt (upd H b o) a := by
  obtain ⟨c, ns, i, z, s, n, h1, h2⟩ := x
  exact ⟨c, ns, i, z, s, n, by rw [upd_ne (ne_of_none h1 h)]; exact h1, by rw [upd_ne (ne_of_none h2 h)]; exact h2⟩
theorem Go.new {a : Addr} {H : Hp} (x : PotAt H a) {b : Addr} {o : HO} (h : H b = none) : Go a H (upd H b o) := ⟨x.upd h, fun c u n e => by rw [upd_ne (ne_of_none e h)]; exact e, fun c xs e => ⟨xs, by rw [upd_ne (ne_of_none e h)]; exact e⟩⟩
/-- a store in the pot -/
theorem PotAt.put {H : Hp} {a c : Addr} {ns : List Int} {i : Nat} {z s n : Int} {xs : List V} (h1 : H a = some (.lst xs)) (h2 : H c = some (.lst (ns.map V.int))) (hc : c ≠ a) (i' : Nat) (z' s' n' : Int) :
    PotAt (L2.upd H a (.lst [.ref c, .int (i' : Int), .int z', .int s', .int n'])) a := ⟨c, ns, i', z', s', n', upd_same, by rw [upd_ne hc]; exact h2⟩
def spDraw : Sp := fun vs H Q _ => ∃ (a : Addr) (m : Int), vs = [.ref a, .int m] ∧ PotAt H a ∧ 0 < m ∧ m < 1000000 ∧ ∀ (r : Int) (H' : Hp), 0 ≤ r → r < m → Go a H H' → Q (.int r) H'
structure Bl (mg : Str → Option Value) : Prop where
  len : mg "len" = none
  int : mg "int" = none
theorem upd_upd {H : Hp} {a : Addr} {o u : HO} : upd (upd H a o) a u = upd H a u := by
  funext b
  by_cases h : b = a
  · rw [h, upd_same, upd_same]
  · rw [upd_ne h, upd_ne h, upd_ne h]
section
variable {P : Program} {w : World} {K : PySem.W.Frag} {mg : Str → Option Value} {base : Heap}
theorem scD : FnScope ["purse", "many", "cell", "told", "made"] ["purse", "many"] (defScope sDraw) := ⟨rfl, rfl, rfl, by decide +kernel, rfl, by decide +kernel, by decide +kernel⟩
theorem ok_draw {f : Addr} {fd : FuncData} (F : Fun K "_law_part" "_law_part" sDraw f fd) (T : Bl mg) : FnOk P w K mg base CX0 1 f fd ["purse", "many"] spDraw := by
  refine F.ok scD (fun vs H Q E h => ?_) (fun cdv A outer s H vs Q E hr h => ?_)
  · obtain ⟨a, m, rfl, _⟩ := h
    rfl
  · obtain ⟨a, m, rfl, ⟨c, ns, i, z, t, n, h1, h2⟩, hm, hm2, k⟩ := h
    have hca : c ≠ a := ne_of h2 h1 (by intro q; cases ns <;> cases q)
    refine ⟨_, C8.pss_cut (ps_if (PW.pt (pw_and (pt_cmpR op_lt (pe_ix ix_list (pv 0) pe_int (fun _ _ => rfl)) pe_int (nomark _)) (pw_and1 (pt_cmpR op_lt (pe_ix ix_list (pv 0) pe_int (fun _ _ => rfl)) (pe_callB call_len_seq (by rfl) T.len PySem.boot_len (pa_cons (pe_ix ix_list (pv 0) pe_int (fun _ _ => rfl)) pa_nil)) (nomark _)))))
        (pss_cons (ps_set (i := 2) scD.nd rfl (Or.inl rfl) (pe_ix ix_list (pe_ix ix_list (pv 0) pe_int (fun _ _ => rfl)) (pe_ix ix_list (pv 0) pe_int (fun _ _ => rfl)) (fun _ _ => rfl)))
        (pss_cons (ps_asg (pe_op op_add (pe_ix ix_list (pv 0) pe_int (fun _ _ => rfl)) pe_int) (pg_sub (pv 0) pe_int set_list))
        (pss_cons (ps_asg (pe_op op_mod (pe_callTy call_int1 (by rfl) T.int (by decide +kernel) (pa_cons (pe_op op_add (pe_op op_add (pe_op op_mul (pe_ix ix_list (pv 0) pe_int (fun _ _ => rfl)) pe_int) (pv 2)) pe_int) pa_nil)) pe_int) (pg_sub (pv 0) pe_int set_list))
        (pss_one (ps_asg (pe_ifExp (pt_cmpR op_ge (pv 2) (pe_op op_pow pe_int pe_int) (nomark _)) (pv 2) pe_int) (pg_sub (pv 0) pe_int set_list))))))
        pss_nil)
      (pss_cons (ps_if (pt_cmpR op_gt (pe_ix ix_list (pv 0) pe_int (fun _ _ => rfl)) pe_int (nomark _))
        (pss_cons (ps_set (i := 3) scD.nd rfl (Or.inl rfl) (pe_op op_mod (pe_callTy call_int1 (by rfl) T.int (by decide +kernel) (pa_cons (pe_ix ix_list (pv 0) pe_int (fun _ _ => rfl)) pa_nil)) (pv 1)))
        (pss_cons (ps_asg (pe_op op_fdiv (pe_ix ix_list (pv 0) pe_int (fun _ _ => rfl)) (pv 1)) (pg_sub (pv 0) pe_int set_list))
        (pss_one (ps_ret (pv 3))))) pss_nil)
      (pss_cons (ps_asg (pe_op op_add (pe_ix ix_list (pv 0) pe_int (fun _ _ => rfl)) pe_int) (pg_sub (pv 0) pe_int set_list))
      (pss_cons (ps_set (i := 4) scD.nd rfl (Or.inl rfl) (pe_op op_mod (pe_callTy call_int1 (by rfl) T.int (by decide +kernel) (pa_cons (pe_op op_mul (pe_op op_add (pe_ix ix_list (pv 0) pe_int (fun _ _ => rfl)) (pe_op op_mul pe_int (pe_ix ix_list (pv 0) pe_int (fun _ _ => rfl)))) pe_int) pa_nil)) pe_int))
      (pss_cons (ps_set (i := 4) scD.nd rfl (Or.inl rfl) (pe_op op_mod (pe_callTy call_int1 (by rfl) T.int (by decide +kernel) (pa_cons (pe_op op_mul (pv 4) (pe_op op_add (pe_op op_fdiv (pv 4) pe_int) pe_int)) pa_nil)) pe_int))
      (pss_cons (ps_set (i := 4) scD.nd rfl (Or.inl rfl) (pe_op op_mod (pe_callTy call_int1 (by rfl) T.int (by decide +kernel) (pa_cons (pe_op op_mul (pv 4) (pe_op op_add (pe_op op_fdiv (pv 4) pe_int) pe_int)) pa_nil)) pe_int))
      (pss_one (ps_ret (pe_op op_mod (pe_callTy call_int1 (by rfl) T.int (by decide +kernel) (pa_cons (pe_op op_fdiv (pv 4) pe_int) pa_nil)) (pv 1))))))))), ?_⟩
    refine ⟨fun σ' H' => (∃ v, σ' = [some (.ref a), some (.int m), v, Option.none, Option.none]) ∧ Go a H H', ?_, ?_⟩
    · -- the first if
      refine ⟨_, rfl, _, _, _, _, rfl, rfl, SqL.of h1, rfl, _, _, rfl, rfl, _, rfl, ?_⟩
      have base0 : Go a H H := Go.refl ⟨c, ns, i, z, t, n, h1, h2⟩
      refine ite2 (fun _ => ?_) (fun _ => ?_)
      · refine ⟨_, rfl, _, _, _, _, rfl, rfl, SqL.of h1, rfl, _, rfl, _, _, _, _, rfl, rfl, SqL.of h1, rfl, _, _, rfl, .inl (SqL.of h2), _, _, rfl, rfl, _, rfl, ?_⟩
        refine ite2 (fun e => ?_) (fun _ => ?_)
        · have hi : i < ns.length := by
            have e' := of_decide_eq_true e
            rw [List.length_map] at e'
            omega
          have hcell : (ns.map V.int)[i]? = some (V.int ns[i]) := by
            rw [List.getElem?_map, List.getElem?_eq_getElem hi] <;> rfl
          refine ⟨_, rfl, _, _, _, _, rfl, rfl, SqL.of h1, rfl, _, rfl, _, _, _, _, rfl, rfl, SqL.of h1, rfl, _, _, _, _, rfl, rfl, SqL.of h2, atI_nat hcell, ?_⟩
          refine ⟨_, rfl, _, _, _, _, rfl, rfl, SqL.of h1, rfl, _, _, rfl, rfl, _, rfl, _, _, _, _, rfl, rfl, h1, rfl, ?_⟩
          refine ⟨_, rfl, _, _, _, _, rfl, rfl, SqL.of upd_same, rfl, _, _, rfl, rfl, .inr (by decide), _, rfl, _, _, rfl, rfl, _, _, rfl, rfl, .inl ⟨_, rfl, _, _, rfl, rfl, (by show (0 : Int) < 2147483399; decide), _, rfl, _, _, _, _, rfl, rfl, upd_same, rfl, ?_⟩⟩
          refine ⟨_, rfl, _, _, rfl, rfl, ⟨by decide, by decide, by decide⟩, _, _, rfl, rfl, _, rfl, ?_⟩
          have fin : ∀ z' s' : Int, Go a H (upd H a (.lst [.ref c, .int ((i + 1 : Nat) : Int), .int z', .int s', .int n])) := fun z' s' => ⟨PotAt.put (i := i) (z := z) (s := t) (n := n) h1 h2 hca _ _ _ _, fun b o e q => by rw [upd_ne e]; exact q, fun c' xs h => by rw [h1] at h; cases h; exact ⟨_, upd_same⟩⟩
          refine ite2 (fun _ => ?_) (fun _ => ?_)
          · refine ⟨_, rfl, _, rfl, _, _, _, _, rfl, rfl, upd_same, rfl, ⟨_, rfl⟩, ?_⟩
            rw [upd_upd, upd_upd]
            exact fin _ _
          · refine ⟨_, rfl, _, _, _, _, rfl, rfl, upd_same, rfl, ⟨_, rfl⟩, ?_⟩
            rw [upd_upd, upd_upd]
            exact fin _ _
        · exact ⟨⟨_, rfl⟩, base0⟩
      · refine iteF ?_
        exact ⟨⟨_, rfl⟩, base0⟩
    · rintro σ' H' ⟨⟨v, rfl⟩, ⟨c, ns, i, z, t, n, h1, h2⟩, kp, k3⟩
      have hca : c ≠ a := ne_of h2 h1 (by intro q; cases ns <;> cases q)
      have fin : ∀ z' s' n' : Int, Go a H (upd H' a (.lst [.ref c, .int (i : Int), .int z', .int s', .int n'])) := fun z' s' n' => ⟨PotAt.put (i := i) (z := z) (s := t) (n := n) h1 h2 hca _ _ _ _, fun b o e q => by rw [upd_ne e]; exact kp b o e q, fun c' xs h => by obtain ⟨ys, h'⟩ := k3 c' xs h; rw [h1] at h'; cases h'; exact ⟨_, upd_same⟩⟩
      refine ⟨_, rfl, _, _, _, _, rfl, rfl, SqL.of h1, rfl, _, _, rfl, rfl, _, rfl, ?_⟩
      refine ite2 (fun _ => ?_) (fun _ => ?_)
      · refine ⟨_, rfl, _, _, _, _, rfl, rfl, SqL.of h1, rfl, .inl ⟨_, rfl, _, rfl, _, _, rfl, rfl, hm, ?_⟩⟩
        refine ⟨_, rfl, _, _, _, _, rfl, rfl, SqL.of h1, rfl, _, rfl, _, _, rfl, rfl, ⟨hm, by omega⟩, _, rfl, _, _, _, _, rfl, rfl, h1, rfl, _, rfl, ?_⟩
        exact k _ _ (Int.emod_nonneg _ (by omega)) (Int.emod_lt_of_pos _ hm) (fin _ _ _)
      · refine ⟨_, rfl, _, _, _, _, rfl, rfl, SqL.of h1, rfl, _, _, rfl, rfl, _, rfl, _, _, _, _, rfl, rfl, h1, rfl, ?_⟩
        refine ⟨_, rfl, _, _, _, _, rfl, rfl, SqL.of upd_same, rfl, _, rfl, _, _, _, _, rfl, rfl, SqL.of upd_same, rfl, _, _, rfl, rfl, .inl (by decide), _, _, rfl, rfl, _, _, rfl, rfl, .inr (by decide), .inl ⟨_, rfl, _, _, rfl, rfl, (by show (0 : Int) < 2147483563; decide), ?_⟩⟩
        have b1 := Int.emod_nonneg ((t + 62089911 * (n + 1)) * 69621) (show (2147483563 : Int) ≠ 0 by decide)
        have b2 := Int.emod_lt_of_pos ((t + 62089911 * (n + 1)) * 69621) (show (0 : Int) < 2147483563 by decide)
        refine ⟨_, rfl, _, rfl, _, _, rfl, rfl, ⟨by decide, by decide⟩, _, _, rfl, rfl, _, _, rfl, rfl, .inl ⟨by omega, by omega⟩, .inl ⟨_, rfl, _, _, rfl, rfl, (by show (0 : Int) < 2147483647; decide), ?_⟩⟩
        generalize (t + 62089911 * (n + 1)) * 69621 % 2147483563 = y1 at *
        have b3 := Int.emod_nonneg (y1 * (y1 / 1499 + 40014)) (show (2147483647 : Int) ≠ 0 by decide)
        have b4 := Int.emod_lt_of_pos (y1 * (y1 / 1499 + 40014)) (show (0 : Int) < 2147483647 by decide)
        refine ⟨_, rfl, _, rfl, _, _, rfl, rfl, ⟨by decide, by decide⟩, _, _, rfl, rfl, _, _, rfl, rfl, .inl ⟨by omega, by omega⟩, .inl ⟨_, rfl, _, _, rfl, rfl, (by show (0 : Int) < 2147483629; decide), ?_⟩⟩
        refine ⟨_, rfl, _, _, rfl, rfl, ⟨by decide, by decide⟩, .inl ⟨_, rfl, _, rfl, _, _, rfl, rfl, hm, ?_⟩⟩
        exact k _ _ (Int.emod_nonneg _ (by omega)) (Int.emod_lt_of_pos _ hm) (fin _ _ _)
end
end R36

set_option Elab.async false
set_option linter.all false
set_option maxRecDepth 100000
set_option maxHeartbeats 4000000
namespace R36
open PySem L2
abbrev sInteger : Stmt := top 1
abbrev sNumber : Stmt := top 2
/-- built-ins that the text leaves as they are -/
structure Gb (mg : Str → Option Value) : Prop where
  len : mg "len" = none
  int : mg "int" = none
  bool : mg "bool" = none
  isi : mg "isinstance" = none
  tup : mg "tuple" = none
  all : mg "all" = none
  enum : mg "enumerate" = none
  list : mg "list" = none
  rng : mg "range" = none
  min : mg "min" = none
  max : mg "max" = none
  sorted : mg "sorted" = none
  set : mg "set" = none
  str : mg "str" = none
  abs : mg "abs" = none
  ve : mg "ValueError" = none
/-- what is expected of a caller of a plain def -/
abbrev Cal := @C8.Cal
def isI : V → Bool | .int _ => true | _ => false
def isB : V → Bool | .bl _ => true | _ => false
/-- a thing, as isinstance sees it; of a tuple also its items, n deep -/
def Th (K : PySem.W.Frag) (H : Hp) : Nat → V → Prop
  | n, x => ∃ t, TyX K H x t ∧ PySem.W.kitOne K t (.type "int") = some (isI x || isB x) ∧ PySem.W.kitOne K t (.type "bool") = some (isB x) ∧
    ((PySem.W.kitOne K t (.type "tuple") = some false ∧ ∀ a, x = .ref a → ∃ o, H a = some o ∧ ∀ xs, o ≠ .tup xs) ∨ (PySem.W.kitOne K t (.type "tuple") = some true ∧ ∃ a xs, x = .ref a ∧ H a = some (.tup xs) ∧
      match n with | 0 => True | m + 1 => ∀ y ∈ xs, Th K H m y))
theorem Th.zero {K : PySem.W.Frag} {H : Hp} {n : Nat} {x : V} (h : Th K H n x) : Th K H 0 x := by
  unfold Th at h ⊢
  obtain ⟨t, a, b, c, d⟩ := h
  refine ⟨t, a, b, c, ?_⟩
  rcases d with d | ⟨d, a, xs, e, f, _⟩
  · exact .inl d
  · exact .inr ⟨d, a, xs, e, f, True.intro⟩
def numV (m : Int) : V → Bool
  | .int i => decide (0 ≤ i) && decide (i ≤ m)
  | _ => false
theorem tyes_in {σ : L2.St} {H : Hp} {te : TE} {R : V → Hp → Prop} {N : Hp → Prop} (h : te σ H R) : tYes σ H (fun b H3 => if b = true then te σ H3 R else N H3) := by
  show (if true = true then te σ H R else N H)
  rw [if_pos rfl]
  exact h
theorem numV_true {m : Int} {x : V} : numV m x = true ↔ ∃ i, x = .int i ∧ 0 ≤ i ∧ i ≤ m := by
  cases x <;> simp [numV]
theorem TyOf.ext {K : PySem.W.Frag} {H H' : Hp} {x : V} {t : Value} (h : TyOf K H x t) (e : Ext H H') : TyOf K H' x t := by
  cases h with
  | non => exact .non
  | bl x => exact .bl x
  | int i => exact .int i
  | str x => exact .str x
  | flt x => exact .flt x
  | lst h => exact .lst (e _ _ h)
  | frz h => exact .frz (e _ _ h)
  | tup h => exact .tup (e _ _ h)
  | dK h => exact .dK (e _ _ h)
  | dT h => exact .dT (e _ _ h)
  | ins h c a b d f => exact .ins (e _ _ h) c a b d f
theorem TyX.ext {K : PySem.W.Frag} {H H' : Hp} {x : V} {t : Value} (h : TyX K H x t) (e : Ext H H') : TyX K H' x t := by
  cases h with
  | base h => exact .base (TyOf.ext h e)
  | byt b => exact .byt b
  | set h => exact .set (e _ _ h)
  | kList h c => exact .kList h c
  | kTuple h c => exact .kTuple h c
  | kDict h c => exact .kDict h c
  | fTuple h => exact .fTuple (e _ _ h)
  | fDict h => exact .fDict (e _ _ h)
theorem Th.ext {K : PySem.W.Frag} {H H' : Hp} (e : Ext H H') : ∀ {n : Nat} {x : V}, Th K H n x → Th K H' n x
  | 0, x, h => by
    unfold Th at h ⊢
    obtain ⟨t, a, b, c, d⟩ := h
    refine ⟨t, TyX.ext a e, b, c, ?_⟩
    rcases d with ⟨d, f⟩ | ⟨d, a, xs, g, f, _⟩
    · exact .inl ⟨d, fun a q => let ⟨o, h1, h2⟩ := f a q; ⟨o, e _ _ h1, h2⟩⟩
    · exact .inr ⟨d, a, xs, g, e _ _ f, True.intro⟩
  | n + 1, x, h => by
    unfold Th at h ⊢
    obtain ⟨t, a, b, c, d⟩ := h
    refine ⟨t, TyX.ext a e, b, c, ?_⟩
    rcases d with ⟨d, f⟩ | ⟨d, a, xs, g, f, i⟩
    · exact .inl ⟨d, fun a q => let ⟨o, h1, h2⟩ := f a q; ⟨o, e _ _ h1, h2⟩⟩
    · exact .inr ⟨d, a, xs, g, e _ _ f, fun y hy => Th.ext e (i y hy)⟩
/-- an arrow of m places -/
def isArr (H : Hp) (m : Int) (x : V) : Prop := ∃ (a : Addr) (p q : Int), x = .ref a ∧ H a = some (.tup [.int p, .int q]) ∧ 0 ≤ p ∧ p < m ∧ 0 ≤ q ∧ q < m
def spInteger (K : PySem.W.Frag) : Sp := fun vs H Q _ => ∃ x : V, vs = [x] ∧ Th K H 0 x ∧ Q (.bl (isI x)) H
def spNumber (K : PySem.W.Frag) : Sp := fun vs H Q _ => ∃ (m : Int) (x : V), vs = [.int m, x] ∧ Th K H 0 x ∧ Q (.bl (numV m x)) H
def spArrow (K : PySem.W.Frag) : Sp := fun vs H Q _ => ∃ (m : Int) (x : V), vs = [.int m, x] ∧ Th K H 1 x ∧ ∀ (b : Bool) (H' : Hp), (b = true ↔ isArr H m x) → Ext H H' → Q (.bl b) H'
section
variable {P : Program} {w : World} {K : PySem.W.Frag} {mg : Str → Option Value} {base : Heap}
theorem scInt : FnScope ["thing"] ["thing"] (defScope sInteger) := ⟨rfl, rfl, rfl, by decide +kernel, rfl, by decide +kernel, by decide +kernel⟩
theorem ok_integer {f : Addr} {fd : FuncData} (F : L2.Fun K "is_integer" "is_integer" sInteger f fd) (T : Gb mg) : FnOk P w K mg base CX0 1 f fd ["thing"] (spInteger K) := by
  refine F.ok scInt (fun vs H Q E h => ?_) (fun cdv A outer s H vs Q E hr h => ?_)
  · obtain ⟨x, rfl, _⟩ := h
    rfl
  · obtain ⟨x, rfl, th, k⟩ := h
    unfold Th at th
    obtain ⟨t, ty, ki, kb, _⟩ := th
    refine ⟨_, pss_one (ps_ret (pe_and (pe_callB call_isi (by rfl) T.isi (by decide +kernel) (pa_cons (pv 0) (pa_cons (pe_bltn (v := .ty "int") (by rfl) T.int (by decide +kernel) rfl) pa_nil)))
      (pe_one (pe_not (pe_callB call_isi (by rfl) T.isi (by decide +kernel) (pa_cons (pv 0) (pa_cons (pe_bltn (v := .ty "bool") (by rfl) T.bool (by decide +kernel) rfl) pa_nil))))))), ?_⟩
    refine ⟨_, rfl, x, .ty "int", t, .type "int", _, rfl, .ty _, ty, ki, _, rfl, ?_⟩
    cases x <;> first
      | exact iteF k
      | (refine iteT ⟨_, rfl, _, .ty "bool", t, .type "bool", _, rfl, .ty _, ty, kb, _, rfl, ?_⟩; exact k)
theorem scNum : FnScope ["most", "thing"] ["most", "thing"] (defScope sNumber) := ⟨rfl, rfl, rfl, by decide +kernel, rfl, by decide +kernel, by decide +kernel⟩
theorem ok_number {f : Addr} {fd : FuncData} (F : L2.Fun K "is_number" "is_number" sNumber f fd) (cI : Cal P w K mg base 1 "is_integer" (spInteger K) []) : FnOk P w K mg base CX0 2 f fd ["most", "thing"] (spNumber K) := by
  refine F.ok scNum (fun vs H Q E h => ?_) (fun cdv A outer s H vs Q E hr h => ?_)
  · obtain ⟨m, x, rfl, _⟩ := h
    rfl
  · obtain ⟨m, x, rfl, th, k⟩ := h
    refine ⟨_, pss_one (ps_ret (pe_and (C8.pe_c cI hr (by decide) (by rfl) (pa_cons (pv 1) pa_nil)) (pe_one (pe_chain op_le op_le pe_int (pv 1) (pv 0))))), ?_⟩
    refine ⟨_, rfl, x, rfl, th, _, rfl, ?_⟩
    cases x with
    | int i =>
      refine iteT ⟨_, rfl, _, _, rfl, rfl, _, rfl, ?_⟩
      by_cases h0 : (0 : Int) ≤ i
      · rw [decide_eq_true h0]
        refine iteT ⟨_, rfl, _, _, rfl, rfl, ?_⟩
        have e : numV m (.int i) = decide (i ≤ m) := by simp [numV, h0]
        rw [e] at k
        exact k
      · rw [decide_eq_false h0]
        have e : numV m (.int i) = false := by simp [numV, h0]
        rw [e] at k
        exact iteF k
    | _ => exact iteF k
end
end R36

set_option Elab.async false
set_option linter.all false
set_option maxRecDepth 100000
set_option maxHeartbeats 1000000
set_option pp.maxSteps 60
/-! dict(xs) of a list of pairs whose first items are tuples, all unlike. -/
namespace R36
open PySem L2 PySem.Spec PyProof.Rows
/-- the entries that the pairs of a list make -/
theorem trips_of {X : Cx} {pins : List (Addr × Obj)} {σ : L2.St} {H : Hp} {s : Shared} (I : Inv X pins σ H s) :
    ∀ {ts : List Addr} {kvs : List (List Key × V)}, Paired (fun t kv => ∃ b, H t = some (.tup [.ref b, kv.2]) ∧ H b = some (.tup (kv.1.map kV))) ts kvs →
      ∃ ps : List (List Key × Addr × Value), KT H kvs ps ∧ ps.length = ts.length ∧ ∀ (j : Nat) (q : List Key × Addr × Value), ps[j]? = some q → ∃ t, ts[j]? = some t ∧ IsTup s.heap t #[.ref q.2.1, q.2.2]
  | _, _, .nil => ⟨[], .nil, rfl, fun j q e => by simp at e⟩
  | _, _, .cons (a := t) (b := kv) ⟨b, ht, hb⟩ r => by
    obtain ⟨ps, rel, hl, hp⟩ := trips_of I r
    obtain ⟨its, rv, tt, _⟩ := I.tuple (SqT.of ht)
    obtain ⟨u, y, ei, ru, ry⟩ := vals2 rv
    subst ei
    cases ru
    refine ⟨(kv.1, b, y) :: ps, .cons ⟨rfl, hb, ry⟩ rel, by rw [List.length_cons, List.length_cons, hl], fun j q e => ?_⟩
    cases j with
    | zero =>
      have e' : (kv.1, b, y) = q := Option.some.inj e
      subst e'
      exact ⟨t, rfl, tt⟩
    | succ j =>
      obtain ⟨t', e1, e2⟩ := hp j q (by simpa using e)
      exact ⟨t', by simpa using e1, e2⟩
theorem atKey_none {xs : List (List Key × Addr × Value)} {k : List Key} (h : k ∉ xs.map (·.1)) : atKey xs k = none := by
  unfold atKey
  rw [Option.map_eq_none_iff, List.find?_eq_none]
  intro x hx
  have : ¬ x.1 = k := fun e => h (List.mem_map.mpr ⟨x, hx, e⟩)
  simpa using this
theorem stored_new : ∀ (ps acc : List (List Key × Addr × Value)), ((acc ++ ps).map (·.1)).Nodup → storedAllH acc ps = acc ++ ps
  | [], acc, _ => by rw [List.append_nil]; rfl
  | p :: ps, acc, nd => by
    have nin : p.1 ∉ acc.map (·.1) := by
      rw [List.map_append, List.nodup_append] at nd
      intro h
      exact nd.2.2 _ h p.1 (by simp) rfl
    have e : storedH acc p.1 p.2.1 p.2.2 = acc ++ [p] := by
      unfold storedH
      rw [atKey_none nin]
      rfl
    have ih := stored_new ps (acc ++ [p]) (by rw [List.append_assoc]; exact nd)
    show storedAllH (storedH acc p.1 p.2.1 p.2.2) ps = _
    rw [e, ih, List.append_assoc]
    rfl
def rDictPT (K : PySem.W.Frag) : List V → Hp → VK → Prop := fun xs H Q => ∃ (l : Addr) (ts : List Addr) (kvs : List (List Key × V)), xs = [.ref l] ∧ SqL K H l (ts.map V.ref) ∧
  Paired (fun t kv => ∃ b, H t = some (.tup [.ref b, kv.2]) ∧ H b = some (.tup (kv.1.map kV))) ts kvs ∧ (kvs.map (·.1)).Nodup ∧ ∀ p, H p = Option.none → Q (.ref p) (upd H p (.dT kvs))
theorem call_dictPT {X : Cx} (hc : X.calm = true) (hu : X.A.units + 2 < cLine) : CallR X (.type "dict") (rDictPT X.K) := by
  rintro pins s σ H xs us Q I r ⟨l, ts, kvs, rfl, hl, pr, nd, q⟩
  obtain rfl := Vals.ref1 r
  obtain ⟨its, rv, pl, hz⟩ := I.list hl
  have ei := L2.refs_at rv
  subst ei
  rw [List.length_map] at hz
  obtain ⟨ps, rel, hlen, hps⟩ := trips_of I pr
  have lk : kvs.length = ps.length := Paired.length rel
  have keys : kvs.map (·.1) = ps.map (·.1) := by
    clear hps hlen nd pr q lk
    induction rel with
    | nil => rfl
    | cons h t ih => rw [List.map_cons, List.map_cons, h.1, ih]
  have is0 : ∀ x ∈ ps, (tupleKind (mixKind X.prog X.w)).is s.heap x.1 x.2.1 ∧ ∃ o, s.heap.get? x.2.1 = some o := by
    intro x hx
    obtain ⟨j, hj⟩ := List.mem_iff_getElem?.mp hx
    have : ∀ {l : List (List Key × V)} {m : List (List Key × Addr × Value)}, KT H l m → ∀ x ∈ m, H x.2.1 = some (.tup (x.1.map kV)) := by
      intro l m q
      induction q with
      | nil => intro x hx; exact nomatch hx
      | cons h t ih =>
        intro x hx
        rcases List.mem_cons.mp hx with e | hx
        · subst e
          rw [← h.1]
          exact h.2.1
        · exact ih x hx
    have hb := this rel x hx
    have k := key_of I.hok hb
    obtain ⟨o, items, n, h1, _⟩ := id k
    exact ⟨k, o, h1⟩
  refine call_dict_pairsH (knd := tupleKind (mixKind X.prog X.w)) (ps := ps) (PairArg.list l (ts.map Value.ref).toArray (fun j => ts.getD j 0) (ps.map fun q => (Value.ref q.2.1, q.2.2))) (I.ok.hd hc) (tupleKind_room_in1 (A := X.A.in1) (by show X.A.units + 1 + 1 < cLine; omega)) ⟨pl, ?_⟩ ?_ ?_ ?_ fun h' tk dd keep => ?_
  · refine ⟨by simp [hlen], fun j k v hj => ?_⟩
    rw [List.getElem?_map] at hj
    cases e : ps[j]? with
    | none => rw [e] at hj; cases hj
    | some q =>
      rw [e] at hj
      cases hj
      obtain ⟨t, ht, tt⟩ := hps j q e
      have eg : ts.getD j 0 = t := by rw [List.getD_eq_getElem?_getD, ht]; rfl
      refine ⟨?_, ?_⟩
      · show _ = some (Value.ref (ts.getD j 0))
        rw [eg]
        simp [ht]
      · show PairAt s.heap (ts.getD j 0) _ _
        rw [eg]
        obtain ⟨o, h1, h2, n, h3⟩ := tt
        exact .inl ⟨o, h1, h2, n, h3⟩
  · refine ⟨by rw [List.length_map], fun i key v hr => ?_⟩
    have hr : (ps.map fun q => (Value.ref q.2.1, q.2.2))[i]? = some (key, v) := hr
    rw [List.getElem?_map] at hr
    cases e : ps[i]? with
    | none => rw [e] at hr; cases hr
    | some q =>
      rw [e] at hr
      cases hr
      exact ⟨q.1, q.2.1, rfl, rfl⟩
  · intro h' hk x hx
    obtain ⟨⟨o, items, n, h1, h2, h3, h4⟩, _⟩ := is0 x hx
    exact ⟨o, items, n, hk _ _ (Nat.ne_of_lt (Heap.lt_size h1)) (fun z => nomatch z) h1, h2, h3, h4⟩
  · rw [List.length_map, hlen]
    exact hz
  · rw [stored_new ps [] (by rw [List.nil_append, ← keys]; exact nd), List.nil_append] at dd
    obtain ⟨o, es, ep, hq, h2, h3, h4, _, h5⟩ := dd
    have hm : (s.heap.objs.size == sysModules) = false := beq_eq_false_iff_ne.mpr (Nat.ne_of_gt I.big)
    have hf : H s.heap.objs.size = none := I.hok.fresh (Nat.le_refl _)
    refine ⟨.ref s.heap.objs.size, upd H s.heap.objs.size (.dT kvs), I.laid (t' := tk) (fun b o e => keep b o (fun z => nomatch z) e) (Nat.le_refl _) ?_, rfl, q _ hf⟩
    exact ⟨by rw [lk, hlen]; exact hz, hm, ps, rel.keeps fun b ys e => by rw [upd_ne (ne_of_none e hf)]; exact e, o, es, ep, hq, h2, h3, h4, h5⟩
end R36

set_option Elab.async false
set_option linter.all false
set_option maxRecDepth 100000
set_option maxHeartbeats 1000000
set_option pp.maxSteps 60
/-! d[k] = v of a dict whose keys are tuples, k an int or a text: the dict is one longer; its length and its kind. -/
namespace R36
open PySem L2 PySem.Spec PyProof.Rows
section
variable {prog : Program} {w : World} {A : Around} {E : Value → Shared → Prop} {s : Shared}
/-- no tuple is an int or a text -/
theorem tup_not {b : Addr} {ks : List Key} {k : Key} {u : Value} (hb : (tupleKind (mixKind prog w)).is s.heap ks b) (hu : A.units < cLine) (hk : keyIs k u = true) : SeqAt.EqAt A s (.ref b) u false := by
  obtain ⟨o, items, n, h1, h2, h3, _⟩ := hb
  have it : s.heap.IsTuple b items := ⟨o, h1, h2, n, h3⟩
  rcases keyIs_shape hk with ⟨i, t, _, rfl⟩ | ⟨x, t, _, rfl⟩
  · exact SeqAt.EqAt.tuple_int i t it hu
  · exact SeqAt.EqAt.tuple_str x t it hu
theorem flat_quiet {k : Key} {u : Value} {Q : Bool → Shared → Prop} (hk : keyIs k u = true) (h : Q true s) : wpAny (model prog w) A (eqIsQuiet 8 u) Q E s := by
  rcases keyIs_shape hk with ⟨i, t, _, rfl⟩ | ⟨x, t, _, rfl⟩
  · unfold eqIsQuiet
    exact wpAny_pure h
  · unfold eqIsQuiet
    exact wpAny_pure h
theorem find_flat {d : Addr} {o : Obj} {es ep} {xs : List (List Key × Addr × Value)} {k : Key} {u : Value} {hh : Int} {Q : Option Nat → Shared → Prop} (hu : A.units < cLine) (hk : keyIs k u = true)
    (ho : s.heap.get? d = some o) (hd : o.data = .dict es ep) (he : es.toList = xs.map (entryOfKey (tupleKind (mixKind prog w)))) (his : ∀ x ∈ xs, (tupleKind (mixKind prog w)).is s.heap x.1 x.2.1) (hne : xs ≠ [])
    (hnone : Q none s) : wpAny (model prog w) A (dictFind d u hh) Q E s := by
  have hmem : ∀ e ∈ es, ∃ x ∈ xs, e = entryOfKey (tupleKind (mixKind prog w)) x := by
    intro e hin
    have : e ∈ xs.map (entryOfKey (tupleKind (mixKind prog w))) := he ▸ Array.mem_toList_iff.mpr hin
    obtain ⟨x, hx, rfl⟩ := List.mem_map.mp this
    exact ⟨x, hx, rfl⟩
  have hst : ∀ v ∈ (placesWithHash es.size (fun i => es[i]?.map (·.hash)) hh).filterMap (fun i => es[i]?.map (·.key)), ∃ k' b, v = .ref b ∧ (tupleKind (mixKind prog w)).is s.heap k' b := by
    intro v hv
    obtain ⟨i, _, hi⟩ := List.mem_filterMap.mp hv
    cases hei : es[i]? with
    | none => rw [hei] at hi; cases hi
    | some e =>
      rw [hei] at hi
      obtain rfl : e.key = v := by simpa using hi
      obtain ⟨x, hx, rfl⟩ := hmem e (Array.mem_of_getElem? hei)
      exact ⟨x.1, x.2.1, rfl, his x hx⟩
  have hall : ¬ (es.all fun e => isExactStrKey e.key) = true := by
    rw [← Array.all_toList, he]
    cases xs with
    | nil => exact absurd rfl hne
    | cons x r => simp [entryOfKey, isExactStrKey]
  have hpl : ∀ i ∈ placesWithHash es.size (fun i => es[i]?.map (·.hash)) hh, ∃ e, es[i]? = some e := by
    intro i hi
    unfold placesWithHash at hi
    obtain ⟨h1, _⟩ := List.mem_filter.mp hi
    exact ⟨es[i]'(List.mem_range.mp h1), Array.getElem?_eq_getElem _⟩
  have tell : ∀ {Q' : Bool → Shared → Prop}, Q' false s → wpAny (model prog w) A (tableMayTell u ((placesWithHash es.size (fun i => es[i]?.map (·.hash)) hh).filterMap (fun i => es[i]?.map (·.key)))) Q' E s := by
    intro Q' h
    unfold tableMayTell
    split
    · exact wpAny_pure h
    · refine wpAny_bind (flat_quiet hk ?_)
      simp only [Bool.not_true, Bool.false_eq_true, if_false]
      refine wpAny_bind ?_
      refine wpAny_forIn_list _ (fun rest r s' => s' = s ∧ r = (none, ()) ∧ ∀ v ∈ rest, ∃ k' b, v = .ref b ∧ (tupleKind (mixKind prog w)).is s.heap k' b) _ ?_ ?_ _ _ ⟨rfl, rfl, hst⟩
      · rintro x rest r s' ⟨rfl, rfl, hr⟩
        obtain ⟨k', b, rfl, hb⟩ := hr x List.mem_cons_self
        refine wpAny_bind ((tupleKind (mixKind prog w)).quiet hb ?_)
        simp only [Bool.not_true, Bool.false_eq_true, if_false]
        exact wpAny_pure ⟨rfl, rfl, fun v hv => hr v (List.mem_cons_of_mem _ hv)⟩
      · rintro r s' ⟨rfl, rfl, _⟩
        exact wpAny_pure h
  have same : ∀ {e : DictEntry}, e ∈ es → SeqAt.EqAt A s e.key u false := by
    intro e hin
    obtain ⟨x, hx, rfl⟩ := hmem e hin
    exact tup_not (his x hx) hu hk
  generalize hpe : placesWithHash es.size (fun i => es[i]?.map (·.hash)) hh = places at *
  unfold dictFind
  refine wpAny_holding ?_
  refine wpAny_bind (wpAny_dictEntries ho hd ?_)
  have empty : ((u :: places.filterMap fun i => es[i]?.map (·.key)).all carriedByValue) = true → places = [] := by
    intro hca
    cases hp : places with
    | nil => rfl
    | cons i r =>
      obtain ⟨e, hei⟩ := hpl i (by rw [hp]; exact List.mem_cons_self)
      rw [hp, List.all_cons, Bool.and_eq_true, List.filterMap_cons, hei] at hca
      have h2 := hca.2
      simp only [Option.map_some, List.all_cons, Bool.and_eq_true] at h2
      obtain ⟨k', b, ek, _⟩ := hst e.key (by rw [hp, List.filterMap_cons, hei]; exact List.mem_cons_self)
      rw [ek] at h2
      exact nomatch h2.1
  have shape : (∃ i t, u = Value.int i t) ∨ ∃ x t, u = Value.str x t := by
    rcases keyIs_shape hk with ⟨i, t, _, e⟩ | ⟨x, t, _, e⟩
    · exact .inl ⟨i, t, e⟩
    · exact .inr ⟨x, t, e⟩
  obtain ⟨b, hb⟩ : ∃ b : Bool, ((u :: places.filterMap fun i => es[i]?.map (·.key)).all carriedByValue) = b := ⟨_, rfl⟩
  rcases shape with ⟨i, t, e⟩ | ⟨x, t, e⟩ <;> (
    subst e
    dsimp only
    try rw [if_neg hall]
    rw [hpe]
    rw [hb]
    cases b with
    | true =>
      rw [if_pos rfl, empty hb]
      unfold dictWalkPlain
      rw [List.forIn_nil]
      exact wpAny_bind (wpAny_pure (wpAny_pure hnone))
    | false =>
      rw [if_neg Bool.false_ne_true]
      split <;> (first | refine wpAny_bind (wpAny_pure ?_) | refine wpAny_bind (tell ?_)) <;> (
        rw [if_neg (by simp)]
        refine wpAny_bind ?_
        refine wpAny_forIn_list _ (fun rest r s' => s' = s ∧ r = (none, none) ∧ ∀ v ∈ rest, v ∈ places) _ ?_ ?_ _ _ ⟨rfl, rfl, fun v hv => hv⟩
        · rintro z rest r s' ⟨rfl, rfl, hr⟩
          obtain ⟨e, hei⟩ := hpl z (hr z List.mem_cons_self)
          rw [hei]
          dsimp only
          have hr' : ∀ v ∈ rest, v ∈ places := fun v hv => hr v (List.mem_cons_of_mem _ hv)
          by_cases hq : (e.hash == hh) = true
          · rw [if_pos hq]
            refine wpAny_bind (wpAny_dictEpoch ho hd (wpAny_bind (same (Array.mem_of_getElem? hei) _ _ _ _ (wpAny_bind (wpAny_dictEpoch ho hd ?_)))))
            rw [if_neg (by simp)]
            simp only [Bool.false_eq_true, if_false]
            refine wpAny_bind (wpAny_rule ?_)
            first | rw [if_neg (by simp)] | skip
            first
              | exact wpAny_pure ⟨rfl, rfl, hr'⟩
              | exact wpAny_bind (wpAny_pure (wpAny_pure ⟨rfl, rfl, hr'⟩))
          · rw [if_neg hq]
            exact wpAny_pure ⟨rfl, rfl, hr'⟩
        · rintro r s' ⟨rfl, rfl, _⟩
          exact wpAny_pure hnone))
end
end R36

set_option Elab.async false
set_option linter.all false
set_option maxRecDepth 100000
set_option maxHeartbeats 1000000
set_option pp.maxSteps 60
/-! What is left of a dict with keys of mixed kinds: its length, and that it is a dict; d.pop(k). -/
namespace R36
open PySem L2 PySem.Spec PyProof.Rows
/-- a dict of n entries, whatever they are -/
def LenAt (p : Addr) (n : Nat) (h : Heap) : Prop := (p == sysModules) = false ∧ ∃ o es ep, h.get? p = some o ∧ o.ExactDict ∧ o.data = .dict es ep ∧ es.size = n
def mixO (p : Addr) (n : Nat) : HO := .ext (LenAt p n)
section
variable {prog : Program} {w : World} {A : Around} {E : Value → Shared → Prop} {s : Shared}
theorem put_flat {d : Addr} {xs : List (List Key × Addr × Value)} {k : Key} {u v : Value} {Q : Unit → Shared → Prop} (hu : A.units + 1 < cLine) (hk : keyIs k u = true) (hm : s.heap.DictOfH (tupleKind (mixKind prog w)) d xs) (hd : (d == sysModules) = false)
    (hne : xs ≠ []) (hsz : xs.length ≤ sizeLine) (hQ : ∀ h' tk, LenAt d (xs.length + 1) h' → Heap.SameBut d s.heap h' → Q () { s with heap := h', toks := tk }) : wpAny (model prog w) A (setItem (.ref d) u v) Q E s := by
  have hT := hm.typeIs
  obtain ⟨o, es, ep, ho, hc, hdat, he, his, hn⟩ := hm
  unfold setItem
  refine wpAny_holding ?_
  refine wpAny_bind (wpAny_sequenceKey hT (by decide) ?_)
  refine wpAny_bind (wpAny_callSpecial?_slot (name := Str.ofString "__setitem__") hT PySem.F.slot_dict_setitem (wpAny_call_entry PySem.F.slot_dict_setitem hT PySem.F.entry_dict_setitem ?_ (PySem.F.args_dict_setitem_3 _ _ _)))
  refine wpAny_bind (wpAny_notOrdered_dict hT ?_)
  show wpAny _ _ (dictSet d u v >>= _) _ _ s
  refine wpAny_bind ?_
  unfold dictSet
  refine wpAny_holding ?_
  refine wpAny_bind ((mixKind prog w).pyHash hk ?_)
  unfold dictSetHashed
  refine wpAny_holding ?_
  refine wpAny_bind (find_flat (s := { s with toks := s.toks + 1 }) hu hk ho hdat he his hne ?_)
  refine wpAny_bind (wpAny_rule (wpAny_updateDictKeys (hz := by have e := size_of_entries he; omega) (s := { s with toks := s.toks + 1 }) ho hdat ?_))
  refine wpAny_pure ⟨.none, rfl, wpAny_pure (hQ _ _ ⟨hd, _, _, ep + 1, Heap.get?_update_self _ ho (Obj.isFreed_of_dict (Obj.data_mapDictKeys hdat _)), hc.mapDictKeys _, Obj.data_mapDictKeys hdat _, ?_⟩ (Heap.SameBut.update ..))⟩
  rw [Array.size_push, size_of_entries he]
end
section
variable {X : Cx}
/-- d[k] = v, k an int or a text, d a dict whose keys are tuples -/
def rSetMix : V → V → V → Hp → (Hp → Prop) → Prop := fun o i v H Q => ∃ (p : Addr) (kvs : List (List Key × V)) (k : Key), o = .ref p ∧ i = kV k ∧ H p = some (.dT kvs) ∧ kvs ≠ [] ∧ Q (upd H p (mixO p (kvs.length + 1)))
theorem set_mix (hu : X.A.units + 1 < cLine) : PSet X rSetMix := by
  intro pins s σ H o i v ov iv u Q I ro ri rv h
  obtain ⟨p, kvs, k, rfl, rfl, hp, hne, q⟩ := h
  cases ro
  obtain ⟨z, hd, xs, rel, dd⟩ := dt_of I.hok hp
  have hl : kvs.length = xs.length := Paired.length rel
  refine put_flat (k := k) hu (kV_is (P := X.prog) (w := X.w) ri) dd hd (fun e => hne (List.length_eq_zero_iff.mp (by rw [hl, e]; rfl))) (by rw [← hl]; exact z) fun h' tk la sb => ?_
  rw [← hl] at la
  have he : ∃ o, h'.get? p = some o := let ⟨_, o, _, _, e, _⟩ := la; ⟨o, e⟩
  exact ⟨_, d_write (ob := mixO p (kvs.length + 1)) (t' := tk) I (by rw [hp]; exact True.intro) sb he ⟨la, he, fun h1 h2 x k => let ⟨y, o, es, ep, e, r⟩ := x; ⟨y, o, es, ep, k o e, r⟩⟩, q⟩
/-- len of such a dict -/
def rLenM : List V → Hp → VK → Prop := fun xs H Q => ∃ (p : Addr) (n : Nat), xs = [.ref p] ∧ H p = some (mixO p n) ∧ n ≤ 1000 ∧ Q (.int (n : Int)) H
theorem mix_at {pins : List (Addr × Obj)} {σ : L2.St} {H : Hp} {s : Shared} {p : Addr} {n : Nat} (I : Inv X pins σ H s) (h : H p = some (mixO p n)) : LenAt p n s.heap := (show ObjOk X.prog X.w H s.heap p (mixO p n) from I.hok p _ h).1
theorem call_len_mix : CallR X (.builtin "len") rLenM := by
  rintro pins s σ H xs us Q I r ⟨p, n, rfl, hp, hn, q⟩
  obtain ⟨u, rfl, rx⟩ := vals1 r
  cases rx
  obtain ⟨hd, o, es, ep, ho, hc, hdat, hz⟩ := mix_at I hp
  have hT : s.TypeIs (.ref p) "dict" := ⟨o, ho, hc.1⟩
  have key : MeetsIn X.prog X.w (Builtin.«dict.__len__» ⟨[.ref p], []⟩) (fun _ R s' => s'.heap.get? p = some o ∧ R (.ok (.ret (.int (n : Int) s'.toks))) { s' with toks := s'.toks + 1 }) := .of_wp fun A R s' ⟨h1, h2⟩ => by
    show wpAny _ _ (dictSize p >>= _) _ _ s'
    unfold dictSize
    refine wpAny_bind (wpAny_bind (wpAny_dictEntries h1 hdat (wpAny_pure ?_)))
    show wpAny _ _ (Builtin.Dict.pendingCount p >>= _) _ _ s'
    refine wpAny_bind (wpAny_pendingCount_other hd ?_)
    refine wpAny_ret_mkInt ?_
    rw [Nat.add_zero, hz]
    exact h2
  refine Calls.call_function_entry kind_len plain_len entry_len (args_len1 _) ?_
  unfold Builtin.«len»
  refine wpAny_bind (m := oneArg "len" _) (wpAny_pure ?_)
  refine wpAny_bind (m := callSpecial? (.ref p) (Str.ofString "__len__")) (wpAny_callSpecial?_slot (name := Str.ofString "__len__") hT PySem.F.slot_dict_len (call_meetsIn PySem.F.slot_dict_len hT PySem.F.entry_dict_len (PySem.F.args_dict_len_1 _) key ⟨ho, ?_⟩))
  show wpAny _ _ _ _ _ { s with toks := s.toks + 1 }
  refine wpAny_bind (wpAny_holding (wpAny_pure ?_))
  refine wpAny_bind (wpAny_letGo ?_)
  show wpAny _ _ (if (n : Int) < 0 then _ else _) _ _ _
  rw [if_neg (by omega)]
  show wpAny _ _ (if (n : Int) ≥ 2 ^ 63 then _ else _) _ _ _
  rw [if_neg (by omega)]
  exact wpAny_bind (wpAny_mkInt (wpAny_pure ⟨_, rfl, .int (n : Int), H, I.tok _, ⟨_, rfl⟩, q⟩))
/-- isinstance of such a dict -/
def rIsiM (K : PySem.W.Frag) : List V → Hp → VK → Prop := fun xs H Q => ∃ (p : Addr) (n : Nat) (c : V) (u : Value) (b : Bool), xs = [.ref p, c] ∧ ClsV c u ∧ H p = some (mixO p n) ∧ PySem.W.kitOne K (.type "dict") u = some b ∧ Q (.bl b) H
theorem call_isi_mix : CallR X (.builtin "isinstance") (rIsiM X.K) := by
  rintro pins s σ H xs us Q I r ⟨p, n, c, u, b, rfl, hc, hp, e, q⟩
  obtain ⟨u1, u2, rfl, r1, r2⟩ := vals2 r
  cases (show u1 = Value.ref p from r1)
  have e2 := hc.eq r2
  subst e2
  obtain ⟨_, o, _, _, h1, h2, _⟩ := mix_at I hp
  exact PySem.W.kia_one PySem.W.kitx_dict I.kIn ⟨o, h1, h2.1⟩ e (fun z => nomatch z) fun tk => ⟨.bl b, H, I.tok tk, rfl, q⟩
end
end R36

set_option Elab.async false
set_option linter.all false
set_option maxRecDepth 100000
set_option maxHeartbeats 1000000
set_option pp.maxSteps 60
/-! sorted(d), d a dict whose keys are pairs of ints: its keys, ascending. -/
namespace R36
open PySem L2 PySem.Spec PyProof.Rows
/-- the pair of ints that stands at b -/
def pairK (H : Hp) (b : Addr) : Int × Int := match H b with
  | some (.tup [.int x, .int y]) => (x, y)
  | _ => (0, 0)
def adr : Value → Addr
  | .ref a => a
  | _ => 0
theorem adr_map (bs : List Addr) : (bs.map Value.ref).map adr = bs := by
  rw [List.map_map]
  exact (List.map_congr_left fun _ _ => rfl).trans (List.map_id _)
theorem ref_adr : ∀ {out : List Value}, (∀ v ∈ out, ∃ t, v = Value.ref t) → out = (out.map adr).map Value.ref
  | [], _ => rfl
  | v :: r, h => by
    obtain ⟨t, rfl⟩ := h v List.mem_cons_self
    rw [List.map_cons, List.map_cons, ← ref_adr fun u hu => h u (List.mem_cons_of_mem _ hu)]
    rfl
/-- what is tracked stands -/
theorem ok_there {P : Program} {w : World} {H : Hp} {h : Heap} {a : Addr} {o : HO} (x : ObjOk P w H h a o) : ∃ ob, h.get? a = some ob := by
  cases o with
  | lst xs => obtain ⟨_, _, _, _, e⟩ := x; exact ⟨_, e⟩
  | tup xs => obtain ⟨_, _, _, ob, e, _⟩ := x; exact ⟨_, e⟩
  | dK kvs => obtain ⟨_, _, _, _, ob, _, _, e, _⟩ := x; exact ⟨_, e⟩
  | dT kvs => obtain ⟨_, _, _, _, ob, _, _, e, _⟩ := x; exact ⟨_, e⟩
  | set S n => obtain ⟨ob, _, _, _, e, _⟩ := x; exact ⟨_, e⟩
  | ins C dx fs => obtain ⟨_, _, _, e, _⟩ := x; exact ⟨_, e⟩
  | own y => obtain ⟨_, e⟩ := x; exact ⟨_, e⟩
  | xd fs => obtain ⟨_, ⟨_, _, _, e, _⟩, _⟩ := x; exact ⟨_, e⟩
  | rng lo hi => obtain ⟨_, _, _, e⟩ := x; exact ⟨_, e⟩
  | frz ob u => exact ⟨_, x.1⟩
  | tbl ps => exact ⟨_, show h.get? a = some _ from x⟩
  | met f y => exact ⟨_, show h.get? a = some _ from x⟩
  | ext φ => obtain ⟨_, ⟨_, e⟩, _⟩ := x; exact ⟨_, e⟩
def rSortedDT : List V → Hp → VK → Prop := fun vs H Q => ∃ (a : Addr) (kvs : List (List Key × V)), vs = [.ref a] ∧ H a = some (.dT kvs) ∧ (∀ kv ∈ kvs, ∃ b e : Int, kv.1 = [.inl b, .inl e]) ∧
  ∀ (bs ys : List Addr) (p : Addr), IsKeys H kvs bs → ys.Perm bs → ys.Pairwise (fun x y => SrtO.lexB (pairK H y) (pairK H x) = false) → H p = Option.none → Q (.ref p) (upd H p (.lst (ys.map V.ref)))
theorem cr_sortedDT {X : Cx} (hc : X.calm = true) : CallR X (.builtin "sorted") rSortedDT := by
  rintro pins s σ H vs us Q I r ⟨a, kvs, rfl, ha, two, q⟩
  obtain ⟨u, rfl, rx⟩ := vals1 r
  cases rx
  obtain ⟨z, hs, ks, pr, o, es, ep, ho, hx, hdt, he, hn⟩ := (show ObjOk X.prog X.w H s.heap a (.dT kvs) from I.hok a _ ha)
  have l1 : es.size = ks.length := size_of_entries he
  have l2 : kvs.length = ks.length := Paired.length pr
  have isk := isKeys_of pr
  obtain ⟨bs, hbs⟩ : ∃ bs, bs = ks.map fun x => x.2.1 := ⟨_, rfl⟩
  rw [← hbs] at isk
  have lb : bs.length = ks.length := by rw [hbs, List.length_map]
  -- each key's tuple
  have pairs : ∀ b ∈ bs, ∃ x y : Int, H b = some (.tup [.int x, .int y]) := by
    intro b hb
    have : ∀ {l : List (List Key × V)} {m : List Addr}, IsKeys H l m → (∀ kv ∈ l, ∃ b e : Int, kv.1 = [.inl b, .inl e]) → ∀ b ∈ m, ∃ x y : Int, H b = some (.tup [.int x, .int y]) := by
      intro l m q
      unfold IsKeys at q
      induction q with
      | nil => intro _ b hb; exact nomatch hb
      | cons h t ih =>
        intro hl b hb
        rcases List.mem_cons.mp hb with e | hb
        · subst e
          obtain ⟨x, y, e⟩ := hl _ List.mem_cons_self
          rw [e] at h
          exact ⟨x, y, h⟩
        · exact ih (fun kv hkv => hl kv (List.mem_cons_of_mem _ hkv)) b hb
    exact this isk two b hb
  have isP : ∀ v ∈ bs.map Value.ref, Srt.IsPair s.heap v (pairK H (adr v)).1 (pairK H (adr v)).2 := by
    intro v hv
    obtain ⟨b, hb, rfl⟩ := List.mem_map.mp hv
    obtain ⟨x, y, hH⟩ := pairs b hb
    obtain ⟨_, its, rv, o', h1, h2, n, h3⟩ := (show ObjOk X.prog X.w H s.heap b (.tup [.int x, .int y]) from I.hok b _ hH)
    obtain ⟨u1, u2, rfl, ri, rj⟩ := vals2 rv
    obtain ⟨t1, rfl⟩ := ri
    obtain ⟨t2, rfl⟩ := rj
    have e : pairK H (adr (Value.ref b)) = (x, y) := by
      show pairK H b = (x, y)
      unfold pairK
      rw [hH]
    rw [e]
    exact ⟨b, o', t1, t2, n, rfl, h1, h2, h3⟩
  refine Calls.call_function_entry kind_sorted plain_sorted entry_sorted (args_sorted1 _) ?_
  unfold Builtin.«sorted»
  refine wpAny_bind (m := checkCount "sorted" 1 1 _) (wpAny_pure ?_)
  refine wpAny_bind (PySem.W.kdu_collect (L2.kdl_raw hs hx hdt) (I.ok.hd hc) ho (by omega) fun h' tk acc kp it => ?_)
  have ea : acc.toList = bs.map Value.ref := by
    rw [hbs, List.map_map]
    have hl : acc.toList.length = ks.length := by rw [Array.length_toList, it.1]; exact l1
    apply List.ext_getElem?
    intro j
    rw [List.getElem?_map]
    cases hj : acc.toList[j]? with
    | none =>
      have h1 := List.getElem?_eq_none_iff.mp hj
      rw [List.getElem?_eq_none (by omega)]
      rfl
    | some v =>
      obtain ⟨en, hen, hv⟩ := it.2 j v (by rw [← Array.getElem?_toList]; exact hj)
      have qe := entry_at he j
      rw [hen] at qe
      cases hb : ks[j]? with
      | none =>
        rw [hb] at qe
        exact nomatch (show some en = none from qe)
      | some b =>
        rw [hb] at qe
        have e2 : en = entryOfKey (tupleKind (mixKind X.prog X.w)) b := Option.some.inj qe
        rw [hv, e2]
        rfl
  rw [ea]
  have hz : (bs.map Value.ref).length ≤ sizeLine := by rw [List.length_map]; omega
  refine wpAny_bind (wpAny_newList ?_ hz)
  have hoL : (h'.push (seqObj "list" (bs.map Value.ref).toArray 0)).get? h'.objs.size = some (seqObj "list" (bs.map Value.ref).toArray 0) := Heap.get?_push_size _ rfl
  refine wpAny_bind (wpAny_holding (wpAny_call_entry PyProof.Rows.slot_list_sort ⟨_, hoL, rfl⟩ PyProof.Rows.entry_list_sort (SrtO.list_sort_ord (SrtO.swo_lex fun v => pairK H (adr v)) hoL hz (fun h2 => ?_) fun out hsr hb => ⟨_, rfl, ?_⟩) (PyProof.Rows.args_list_sort _)))
  · refine SrtO.pairs_sortableO (by omega) (fun v hm => (isP v hm).keeps fun b o e _ => Heap.get?_push_of_some _ (kp b o e)) fun o e => ?_
    have e' : some o = some (seqObj "list" (bs.map Value.ref).toArray 0) := e.symm.trans hoL
    cases e'
    intro c
    exact absurd (Value.type.inj c) (by decide)
  · have refs : ∀ v ∈ out, ∃ t, v = Value.ref t := fun v hv => by
      obtain ⟨b, _, e⟩ := List.mem_map.mp (hb.perm.mem_iff.mp hv)
      exact ⟨b, e.symm⟩
    have eo := ref_adr refs
    have perm : (out.map adr).Perm bs := by
      have := hb.perm.map adr
      rw [adr_map] at this
      exact this
    obtain ⟨n, hn⟩ := sortedHeap_at (out := out.toArray) hoL
    have hg : s.heap.get? h'.objs.size = Option.none := by
      cases e : s.heap.get? h'.objs.size with
      | none => rfl
      | some ob => exact absurd (Heap.lt_size (kp _ _ e)) (Nat.lt_irrefl _)
    have hf : H h'.objs.size = Option.none := by
      cases e : H h'.objs.size with
      | none => rfl
      | some u =>
        obtain ⟨ob, e2⟩ := ok_there (I.hok _ _ e)
        rw [hg] at e2
        cases e2
    refine wpAny_pure ⟨_, rfl, .ref h'.objs.size, upd H h'.objs.size (.lst ((out.map adr).map V.ref)), ?_, rfl, q bs _ _ isk perm ?_ hf⟩
    · refine I.laidN (fun b ob e => ?_) hg hf ⟨?_, out, n, ?_, hn⟩
      · have lt := Heap.lt_size (kp _ _ e)
        rw [sortedHeap_old (Nat.ne_of_lt lt) (by rw [size_push']; exact Nat.lt_succ_of_lt lt)]
        exact Heap.get?_push_of_some _ (kp _ _ e)
      · rw [List.length_map, List.length_map, hb.len, List.length_map]
        omega
      · have v := L2.vals_refs (out.map adr)
        rw [← eo] at v
        exact v
    · refine List.Pairwise.map adr ?_ hsr
      intro x y h
      exact h
end R36

set_option Elab.async false
set_option linter.all false
set_option maxRecDepth 100000
set_option maxHeartbeats 4000000
set_option pp.maxSteps 60
namespace R36
open PySem L2
abbrev sWE : Stmt := inClass (top 4) 0
abbrev sPurse : Stmt := top 14
abbrev sDeep : Stmt := top 19
/-- what is tracked but for the pot -/
def Off (a : Addr) (H : Hp) : Hp := fun b => if b = a then none else match H b with
  | some (.tbl _) => none
  | o => o
theorem off_at {a b : Addr} {H : Hp} {o : HO} (h : b ≠ a) (e : H b = some o) (nt : ∀ ps, o ≠ .tbl ps) : Off a H b = some o := by
  unfold Off
  rw [if_neg h, e]
  cases o with
  | tbl ps => exact absurd rfl (nt ps)
  | _ => rfl
theorem off_some {a b : Addr} {H : Hp} {o : HO} (h : Off a H b = some o) : b ≠ a ∧ H b = some o ∧ ∀ ps, o ≠ .tbl ps := by
  unfold Off at h
  by_cases e : b = a
  · rw [if_pos e] at h; cases h
  · rw [if_neg e] at h
    cases q : H b with
    | none => rw [q] at h; cases h
    | some u =>
      rw [q] at h
      cases u with
      | tbl ps => cases h
      | _ => cases h; exact ⟨e, rfl, fun _ z => nomatch z⟩
theorem Off.ext {a : Addr} {H H' : Hp} (g : ∀ b o, b ≠ a → H b = some o → H' b = some o) : Ext (Off a H) (Off a H') := fun b o h => by
  obtain ⟨n, e, nt⟩ := off_some h
  exact off_at n (g b o n e) nt
theorem Go.off {a : Addr} {H H' : Hp} (g : Go a H H') : Ext (Off a H) (Off a H') := Off.ext g.2
theorem Go.of_ext {a : Addr} {H H' : Hp} (p : PotAt H a) (e : Ext H H') : Go a H H' := by
  obtain ⟨c, ns, i, z, s, n, h1, h2⟩ := p
  exact ⟨⟨c, ns, i, z, s, n, e _ _ h1, e _ _ h2⟩, fun b o _ h => e b o h, fun c xs h => ⟨xs, e _ _ h⟩⟩
theorem pot_no {H : Hp} {a b : Addr} {o : HO} (p : PotAt H a) (h : H b = some o) (no : ∀ xs, o ≠ .lst xs) : b ≠ a := by
  obtain ⟨c, ns, i, z, s, n, h1, h2⟩ := p
  intro e
  rw [e, h1] at h
  cases h
  exact no _ rfl
/-! ### kinds of things -/
section
variable {K : PySem.W.Frag} {S : Hp} {n : Nat}
theorem Th.plain {x : V} {t : Value} (ty : TyX K S x t) (h1 : PySem.W.kitOne K t (.type "int") = some (isI x || isB x)) (h2 : PySem.W.kitOne K t (.type "bool") = some (isB x)) (h3 : PySem.W.kitOne K t (.type "tuple") = some false)
    (h : ∀ a, x = .ref a → ∃ o, S a = some o ∧ ∀ xs, o ≠ .tup xs) : Th K S n x := by
  unfold Th
  exact ⟨t, ty, h1, h2, .inl ⟨h3, h⟩⟩
theorem Th.non : Th K S n .non := Th.plain (.base .non) (kit_ty (by decide +kernel)) (kit_ty (by decide +kernel)) (kit_ty (by decide +kernel)) fun _ h => nomatch h
theorem Th.bl (b : Bool) : Th K S n (.bl b) := Th.plain (.base (.bl b)) (kit_ty (show kitB "bool" "int" = some true by decide +kernel)) (kit_ty (show kitB "bool" "bool" = some true by decide +kernel)) (kit_ty (by decide +kernel)) fun _ h => nomatch h
theorem Th.int (i : Int) : Th K S n (.int i) := Th.plain (.base (.int i)) (kit_ty (show kitB "int" "int" = some true by decide +kernel)) (kit_ty (show kitB "int" "bool" = some false by decide +kernel)) (kit_ty (by decide +kernel)) fun _ h => nomatch h
theorem Th.str (z : Str) : Th K S n (.str z) := Th.plain (.base (.str z)) (kit_ty (show kitB "str" "int" = some false by decide +kernel)) (kit_ty (show kitB "str" "bool" = some false by decide +kernel)) (kit_ty (by decide +kernel)) fun _ h => nomatch h
theorem Th.lst {p : Addr} {xs : List V} (h : S p = some (.lst xs)) : Th K S n (.ref p) :=
  Th.plain (.base (.lst h)) (kit_ty (show kitB "list" "int" = some false by decide +kernel)) (kit_ty (show kitB "list" "bool" = some false by decide +kernel)) (kit_ty (by decide +kernel)) fun a e => by cases e; exact ⟨_, h, fun _ z => nomatch z⟩
theorem Th.dct {p : Addr} {kvs : List (Key × V)} (h : S p = some (.dK kvs)) : Th K S n (.ref p) :=
  Th.plain (.base (.dK h)) (kit_ty (show kitB "dict" "int" = some false by decide +kernel)) (kit_ty (show kitB "dict" "bool" = some false by decide +kernel)) (kit_ty (by decide +kernel)) fun a e => by cases e; exact ⟨_, h, fun _ z => nomatch z⟩
theorem Th.tup {p : Addr} {xs : List V} (h : S p = some (.tup xs)) (it : ∀ y ∈ xs, Th K S n y) : Th K S (n + 1) (.ref p) := by
  unfold Th
  exact ⟨_, .base (.tup h), kit_ty (show kitB "tuple" "int" = some false by decide +kernel), kit_ty (show kitB "tuple" "bool" = some false by decide +kernel), .inr ⟨kit_ty (by decide +kernel), p, xs, rfl, h, it⟩⟩
end
theorem Th.tup0 {K : PySem.W.Frag} {S : Hp} {p : Addr} {xs : List V} (h : S p = some (.tup xs)) : Th K S 0 (.ref p) := by
  unfold Th
  exact ⟨_, .base (.tup h), kit_ty (show kitB "tuple" "int" = some false by decide +kernel), kit_ty (show kitB "tuple" "bool" = some false by decide +kernel), .inr ⟨kit_ty (by decide +kernel), p, xs, rfl, h, True.intro⟩⟩
theorem off_le {a : Addr} {H : Hp} : Ext (Off a H) H := fun b o h => (off_some h).2.1
/-- .. over the making of lambdas, too -/
theorem off_extN {a : Addr} {H H' : Hp} (e : LamX.ExtN H H') : Ext (Off a H) H' := fun b o h => e b o (off_some h).2.1 (off_some h).2.2
def spAny : Sp := fun vs H Q _ => ∃ (a l : Addr) (xs : List V), vs = [.ref a, .ref l] ∧ PotAt H a ∧ l ≠ a ∧ H l = some (.lst xs) ∧ xs ≠ [] ∧ xs.length ≤ 1000 ∧ ∀ (x : V) (H' : Hp), x ∈ xs → Go a H H' → Q x H'
theorem Paired.imp' {α β : Type} {F G : α → β → Prop} (h : ∀ a b, F a b → G a b) : ∀ {l : List α} {k : List β}, Paired F l k → Paired G l k
  | _, _, .nil => .nil
  | _, _, .cons a r => .cons (h _ _ a) (Paired.imp' h r)
/-- the tuples at these places are these -/
abbrev PT2 (S : Hp) (as : List Addr) (ll : List (List Int)) : Prop := Paired (fun a l => S a = some (.tup (l.map V.int))) as ll
theorem PT2.len {S : Hp} : ∀ {as : List Addr} {ll : List (List Int)}, PT2 S as ll → as.length = ll.length
  | _, _, .nil => rfl
  | _, _, .cons _ r => congrArg (· + 1) (PT2.len r)
theorem PT2.get {S : Hp} : ∀ {as : List Addr} {ll : List (List Int)} {i : Nat} {a : Addr}, PT2 S as ll → as[i]? = some a → ∃ l, ll[i]? = some l ∧ S a = some (.tup (l.map V.int))
  | _, _, i, _, .nil, h => by simp at h
  | _, _, 0, _, .cons x _, h => by cases h; exact ⟨_, rfl, x⟩
  | _, _, i + 1, _, .cons _ r, h => PT2.get (i := i) r (by simpa using h)
theorem PT2.put {S : Hp} {b : Addr} {l : List Int} (h : S b = some (.tup (l.map V.int))) : ∀ {as : List Addr} {ll : List (List Int)} {i : Nat}, PT2 S as ll → PT2 S (as.set i b) (ll.set i l)
  | _, _, i, .nil => by simpa using (Paired.nil)
  | _, _, 0, .cons _ r => .cons h r
  | _, _, i + 1, .cons x r => .cons x (PT2.put h r)
theorem PT2.snoc {S : Hp} {b : Addr} {l : List Int} {as : List Addr} {ll : List (List Int)} (r : PT2 S as ll) (h : S b = some (.tup (l.map V.int))) : PT2 S (as ++ [b]) (ll ++ [l]) := Paired.snoc r h
theorem PT2.mono {S S' : Hp} {as : List Addr} {ll : List (List Int)} (e : ∀ b xs, S b = some (.tup xs) → S' b = some (.tup xs)) (r : PT2 S as ll) : PT2 S' as ll := Paired.imp' (fun a l h => e _ _ h) r
theorem PT2.th {K : PySem.W.Frag} {S : Hp} {n : Nat} {as : List Addr} {ll : List (List Int)} (r : PT2 S as ll) : ∀ y ∈ as.map V.ref, Th K S (n + 1) y := by
  intro y hy
  obtain ⟨a, ha, rfl⟩ := List.mem_map.mp hy
  obtain ⟨i, hi⟩ := List.mem_iff_getElem?.mp ha
  obtain ⟨l, _, h⟩ := r.get hi
  refine Th.tup h fun z hz => ?_
  obtain ⟨k, _, rfl⟩ := List.mem_map.mp hz
  exact Th.int k
section
open PySem.Spec PyProof.Rows
structure ExIs (K : PySem.W.Frag) (C : Addr) : Prop where
  cls : (PySem.W.clsIn K C).isSome = true
  ga : PySem.W.findIn K (.ref C) "__getattribute__" = some (some (.builtin "BaseException.__getattribute__"))
  gt : PySem.W.findIn K (.ref C) "__getattr__" = some none
  sb : PySem.W.subIn K (.ref C) (.type "BaseException") = some true
  ha : PySem.W.findIn K (.ref C) "__class__" = some (some (.builtin "object.__class__"))
  hn : PySem.W.specialIn K (.builtin "object.__class__") "__get__" = some (some (.builtin "getset_descriptor.__get__"))
  ht : PySem.W.takesIn K (.builtin "object.__class__") = some true
  hm : PySem.W.mroIn K C (.type "object") = some true
variable {X : Cx} {pins : List (Addr × Obj)} {σ : L2.St} {H : Hp} {s : Shared} {a C : Addr} {fs : List (Str × V)}
/-- an exception made and kept -/
def tExv (C : Addr) (sp : Sp) (t : TA) : TE := fun σ H Q => t σ H fun vs H1 => vs.length ≤ 1000 ∧ ∀ a, H1 a = none → sp (.ref a :: vs) (upd H1 a (exo a C none)) (fun v H2 => v = .non ∧ Q (.ref a) H2) E0
variable {CX : CXT} {x : Str} {fI : Addr} {k : Nat} {fd : FuncData} {ps : List Str} {sp : Sp} {e : Expr} {es : List Expr} {ta : TA} {p pos : Pos}
theorem run_exv (T : OexC X.K C) (hi : PySem.W.findIn X.K (.ref C) "__init__" = some (some (.ref fI))) (ht : PySem.W.typeIn X.K (.ref fI) = some (.type "function"))
    (G : FnOk X.prog X.w X.K X.mg X.base CX k fI fd ps sp) (hr : Room (k + 1) X.A) (hb : Binds X.K fd ps []) (hx : Passes CX X E0) {vs : List V} {us : List Value} {H1 : Hp} {s1 : Shared} {Q : VK} (I1 : Inv X pins σ H1 s1) (r1 : Vals vs us) (hz : vs.length ≤ 1000)
    (q1 : ∀ a, H1 a = none → sp (.ref a :: vs) (upd H1 a (exo a C none)) (fun v H2 => v = .non ∧ Q (.ref a) H2) E0) : wpAny (model X.prog X.w) X.A (call (.ref C) us) (EP X pins σ Q) X.xe s1 := by
  obtain ⟨_, _, _, _, bm, _, _, _, _, _, _, _, _, _, _, inCls, mroOk⟩ := T.cls
  obtain ⟨h0, gs, dr, tk, os⟩ := s1
  let o := h0.objs.size + 1
  let h1 := (h0.push (PySem.W.kdv_tup us)).push (PySem.HandSPX.excO C h0.objs.size)
  have new : H1 o = none := I1.hok.fresh (Nat.le_succ _)
  have old : ∀ b u, h0.get? b = some u → h1.get? b = some u := fun b u q => Heap.get?_push_of_some _ (Heap.get?_push_of_some _ q)
  have there : h1.get? o = some (PySem.HandSPX.excO C h0.objs.size) := by
    show ((h0.push (PySem.W.kdv_tup us)).push (PySem.HandSPX.excO C h0.objs.size)).get? (h0.objs.size + 1) = _
    heap_get
  have J : Inv X pins σ (upd H1 o (exo o C none)) ⟨h1, gs, dr, tk, os⟩ := I1.laid (t' := tk) old (Nat.le_succ _) (exo_ok there)
  have asked := q1 o new
  have rr : Vals (V.ref o :: vs) (Value.ref o :: us) := .cons rfl r1
  have len : (Value.ref o :: us).length = ps.length := rr.length ▸ G.len _ _ _ _ asked
  have bound := hb _ (Value.ref o :: us) J.kIn (by rw [List.append_nil]; exact len)
  rw [List.append_nil] at bound
  have few : us.length ≤ sizeLine := by
    have q : us.length = vs.length := (Paired.length r1).symm
    rw [q, sizeLine_eq]
    omega
  have body := G.run _ X.stack _ _ ⟨Value.ref o :: us, []⟩ _ _ _ E0 (hr.make C us []) (J.env0.make C us []) bound rr asked
  refine wpAny_call (PySem.HandSPX.call_own F.excBase_ValueError (fun Y => PySem.HandSPX.refsVE_contains Y bm mroOk) (I1.kIn _ _ inCls) (PySem.W.looks_findIn I1.kIn hi) (fun self => PySem.W.bind_fn I1.kIn self ht) few (codeAny_mono body ?_))
  intro out s2 z
  match out, z with
  | .error er, z => exact hx pins σ _ _ er s2 J z
  | .ok (.ret u), z =>
    obtain ⟨v, H2, J2, rv, ev, qq⟩ := J.after z
    subst ev
    exact ⟨rv, .ref o, H2, J2, rfl, qq⟩
  | .ok .next, z => exact z.elim
  | .ok .brk, z => exact z.elim
  | .ok .cont, z => exact z.elim
theorem pe_exv0 (T : OexC X.K C) (iC : PySem.W.findIn X.K (.ref C) "__init__" = some (some (.ref fI))) (tI : PySem.W.typeIn X.K (.ref fI) = some (.type "function"))
    (F1 : FnOk X.prog X.w X.K X.mg X.base CX k fI fd ps sp) (hr : Room (k + 1) X.A) (hb : Binds X.K fd ps []) (hx : Passes CX X E0) (hg : Gl X x) (hm : X.mg x = some (.ref C))
    (hdb : (x == ("__debug__" : Str)) = false := by decide) :
    PE X (.Call (.Name x p) [] [] pos) (tExv C sp tNil) := by
  refine ⟨fun pins s σ H Q I h => ?_⟩
  refine wpAny_Call_Name_kw (ld_glob I hg hm ?_ hdb)
  obtain ⟨hz, q1⟩ := h
  exact PySem.W.callWith_K0 I.kIn T.kC (run_exv (us := []) T iC tI F1 hr hb hx I .nil hz q1)
/-- raising an exception without fields that has just been made -/
theorem pmk_v {X : Cx} {e : Expr} {te : TE} (none' : X.ex = []) (he : PE X e te) :
    PMk X e (fun τ H Q => te τ H fun x J => ∃ a C, x = .ref a ∧ J a = some (exo a C none) ∧ X.H_0 a = none ∧ OexC X.K C ∧ Q (.ref C) none (delH J a)) := by
  intro pins s τ H Q I want
  refine thn (he.run pins s τ H _ I want) fun u s1 ⟨v, J, I1, r, a, C, ex, ha, h0, T, z⟩ => ?_
  subst ex
  obtain rfl : u = Value.ref a := r
  obtain ⟨t1, there⟩ := exo_at I1.hok ha
  obtain ⟨G, le, gone, I2⟩ := I1.untrack ha (fr0_none h0) none'
  exact ⟨a, _, _, { s1 with heap := G }, delH J a, .ref C, none, rfl, I2, le, gone, there, ⟨rfl, rfl⟩, rfl, rfl, delH_same, rfl, I1.bare, raises_own T.exC T.tyC, z⟩
theorem ps_raise_v {X : Cx} {pos : Pos} (H0 : Hp) (K0 : PySem.W.Frag) {W : WX} {e : Expr} {te : TE} (tk : Takes X W) (e0 : X.H_0 = H0) (eK : X.K = K0) (he : PE X e te) (calm : X.calm = true := by rfl) (none' : X.ex = [] := by rfl) :
    PS X (.Raise (some e) none pos) (fun _ τ H => te τ H fun x J => ∃ a C, x = .ref a ∧ J a = some (exo a C none) ∧ H0 a = none ∧ OexC K0 C ∧ W (.ref C) none τ (delH J a)) := by
  subst e0 eK
  exact ps_raise calm tk (pmk_v none' he)
end
def spF0 : Sp := fun vs H Q _ => ∃ a : Addr, vs = [.ref a] ∧ Q .non H
/-- an error class without fields: what the top has written of it -/
structure ErrC (K : PySem.W.Frag) (mg : Str → Option Value) (x : Str) (C fI : Addr) : Prop where
  ex : OexC K C
  iC : PySem.W.findIn K (.ref C) "__init__" = some (some (.ref fI))
  tI : PySem.W.typeIn K (.ref fI) = some (.type "function")
  gC : mg x = some (.ref C)
  is : ExIs K C
theorem ext_delH {H H1 : Hp} {a : Addr} {o : HO} (e : Ext H H1) (na : H1 a = none) : Ext H (delH (upd H1 a o) a) := fun b u h => by
  have h1 := e _ _ h
  have ne := ne_of_none h1 na
  unfold delH
  rw [if_neg ne, upd_ne ne]
  exact h1
theorem none_back {H H1 : Hp} {a : Addr} (e : Ext H H1) (na : H1 a = none) : H a = none := by
  cases q : H a with
  | none => rfl
  | some u => rw [e _ _ q] at na; cases na
theorem lst_ne {H : Hp} {f b : Addr} {xs ys : List V} (hf : H f = some (.lst xs)) (hb : H b = some (.tup ys)) : b ≠ f := fun e => by
  rw [e, hf] at hb
  cases hb
theorem Go.tup {a b : Addr} {H H' : Hp} {xs : List V} (p : PotAt H a) (g : Go a H H') (h : H b = some (.tup xs)) : H' b = some (.tup xs) := g.2 _ _ (pot_no p h fun _ z => nomatch z) h
/-- a store at a thing that is new since -/
theorem Go.put {a d : Addr} {H H' : Hp} {o : HO} (p : PotAt H a) (g : Go a H H') (nd : H d = none) : Go a H (upd H' d o) := by
  obtain ⟨c, ns, i, z, s, n, h1, h2⟩ := p
  obtain ⟨ys, h3⟩ := g.cell c _ h1
  obtain ⟨c', ns', i', z', s', n', h4, h5⟩ := g.1
  have ec : c' = c := by
    rw [h3] at h4
    cases h4
    rfl
  subst ec
  have nad : a ≠ d := ne_of_none h1 nd
  have ncd : c' ≠ d := ne_of_none h2 nd
  exact ⟨⟨c', ns', i', z', s', n', by rw [upd_ne nad]; exact h4, by rw [upd_ne ncd]; exact h5⟩, fun b o' nb hb => by rw [upd_ne (ne_of_none hb nd)]; exact g.2 b o' nb hb, fun c xs hc => by rw [upd_ne nad]; exact g.cell c xs hc⟩
def spPurse (K : PySem.W.Frag) : Sp := fun vs H Q _ => ∃ (s : Addr) (ns : List Int), vs = [.ref s] ∧ SqL K H s (ns.map V.int) ∧ ns.length ≤ 63 ∧ ∀ (r : Addr) (H' : Hp), Ext H H' → PotAt H' r → Q (.ref r) H'
def spDeep : Sp := fun vs H Q _ => vs = [.int 38] ∧ ∀ (r q : Addr) (xs : List V) (H' : Hp), Ext H H' → H' r = some (.tup [.ref q]) → H' q = some (.tup xs) → Q (.ref r) H'
section
variable {P : Program} {w : World} {K : PySem.W.Frag} {mg : Str → Option Value} {base : Heap}
theorem scAny : FnScope ["purse", "some"] ["purse", "some"] (defScope sAny) := ⟨rfl, rfl, rfl, by decide +kernel, rfl, by decide +kernel, by decide +kernel⟩
theorem ok_any {f : Addr} {fd : FuncData} (F : L2.Fun K "_law_one" "_law_one" sAny f fd) (T : Gb mg) (cD : Cal P w K mg base 1 "_law_part" spDraw []) : FnOk P w K mg base CX0 2 f fd ["purse", "some"] spAny := by
  refine F.ok scAny (fun vs H Q E h => ?_) (fun cdv A outer s H vs Q E hr h => ?_)
  · obtain ⟨a, l, xs, rfl, _⟩ := h
    rfl
  · obtain ⟨a, l, xs, rfl, pot, nl, hl, ne, len, k⟩ := h
    refine ⟨_, pss_one (ps_ret (pe_ix ix_list (pv 1) (C8.pe_c cD hr (by decide) (by rfl) (pa_cons (pv 0) (pa_cons (pe_callB call_len_seq (by rfl) T.len PySem.boot_len (pa_cons (pv 1) pa_nil)) pa_nil))) (fun _ _ => rfl))), ?_⟩
    have pos : 0 < xs.length := List.length_pos_iff.mpr ne
    refine ⟨_, rfl, _, rfl, _, rfl, l, xs, rfl, .inl (SqL.of hl), a, _, rfl, pot, by omega, by omega, fun r H' h0 hlt go => ?_⟩
    have lt : r.toNat < xs.length := by omega
    refine ⟨l, xs, r, xs[r.toNat], rfl, rfl, SqL.of (go.2 _ _ nl hl), at_of (j := r.toNat) (by omega) (List.getElem?_eq_getElem lt), ?_⟩
    exact k _ _ (List.getElem_mem lt) go
theorem scWE : FnScope ["self"] ["self"] (defScope sWE) := ⟨rfl, rfl, rfl, by decide +kernel, rfl, by decide +kernel, by decide +kernel⟩
theorem ok_we {f : Addr} {fd : FuncData} (F : L2.Fun K "__init__" "WebError.__init__" sWE f fd) : FnOk P w K mg base CX0 1 f fd ["self"] spF0 := by
  refine F.ok scWE (fun vs H Q E h => ?_) (fun cdv A outer s H vs Q E hr h => ?_)
  · obtain ⟨a, rfl, _⟩ := h
    rfl
  · obtain ⟨a, rfl, k⟩ := h
    exact ⟨_, pss_one ps_pass, k⟩
theorem scPurse : FnScope ["script", "cell"] ["script"] (defScope sPurse) := ⟨rfl, rfl, rfl, by decide +kernel, rfl, by decide +kernel, by decide +kernel⟩
theorem ok_purse {f : Addr} {fd : FuncData} (F : L2.Fun K "_law_purse" "_law_purse" sPurse f fd) (T : Gb mg) : FnOk P w K mg base CX0 1 f fd ["script"] (spPurse K) := by
  refine F.ok scPurse (fun vs H Q E h => ?_) (fun cdv A outer s H vs Q E hr h => ?_)
  · obtain ⟨a, ns, rfl, _⟩ := h
    rfl
  · obtain ⟨a, ns, rfl, hS, hlen, k⟩ := h
    refine ⟨_, pss_one (ps_ret (pe_lst (pa_cons (pe_lc (own := [("cell", 1)]) (g := gName 1) (tt := tYes) rfl scPurse.nd (pi_list (pe_slice sl_list (pv 0) po_none (po_some pe_int))) (blkOk_by (N := ["script", "cell"]) (sc := defScope sPurse) (by decide +kernel))
        (fun _ _ _ _ _ => pg_name (i := 1) scPurse.nd rfl (Or.inl rfl)) (fun _ _ _ _ _ => pts_nil) (fun _ _ _ _ _ => pe_callB call_abs (by rfl) T.abs (by decide +kernel) (pa_cons (pe_callTy call_int1 (by rfl) T.int (by decide +kernel) (pa_cons (pv 1) pa_nil)) pa_nil)))
      (pa_cons pe_int (pa_cons pe_int (pa_cons (pe_op op_add pe_int (pe_op op_mul pe_int (pe_callB call_len_seq (by rfl) T.len PySem.boot_len (pa_cons (pe_slice sl_list (pv 0) po_none (po_some pe_int)) pa_nil)))) (pa_cons pe_int pa_nil))))))), ?_⟩
    have all : ∀ y ∈ cutV (ns.map V.int) Option.none (some 70), ∃ i, y = V.int i := fun y hy => by
      have hy := List.mem_of_mem_drop (List.mem_of_mem_take hy)
      obtain ⟨i, _, rfl⟩ := List.mem_map.mp hy
      exact ⟨i, rfl⟩
    have cl : (cutV (ns.map V.int) Option.none (some 70)).length ≤ 63 := Nat.le_trans (cutV_length _ _ _) (by rw [List.length_map]; exact hlen)
    refine ⟨_, rfl, 70, rfl, a, _, rfl, hS, fun l nl => ?_⟩
    generalize cutV (ns.map V.int) Option.none (some 70) = xs at *
    refine ⟨l, rfl, ⟨_, SqL.of upd_same⟩, fun D nD => lc_list (K := K) (a := l) (xs := xs) (fun i H' => ∃ cs : List Int, H' = upd (upd H l (.lst xs)) D (.lst (cs.map V.int)) ∧ cs.length = i) ⟨[], rfl, rfl⟩ (fun i H' _ ⟨cs, e, _⟩ => by rw [e]; exact SqL.of (Ext.upd nD _ _ upd_same)) ?_ ?_⟩
    · rintro i y H' hy ⟨cs, rfl, hc⟩
      obtain ⟨z, rfl⟩ := all y (List.mem_of_getElem? hy)
      have hi := (List.getElem?_eq_some_iff.mp hy).1
      refine ⟨rfl, tyes_in ⟨_, rfl, .inl ⟨_, rfl, _, rfl, ?_⟩⟩⟩
      refine ⟨_, upd_same, by rw [List.length_map]; exact small1000 (by omega), cs ++ [if z < 0 then -z else z], ?_, by rw [List.length_append, hc]; rfl⟩
      rw [upd_upd, List.map_append]
      rfl
    · rintro H' ⟨cs, rfl, hc⟩
      have e1 : Ext H (upd (upd H l (.lst xs)) D (.lst (cs.map V.int))) := (Ext.upd nl).trans (Ext.upd nD)
      have gD : (upd (upd H l (.lst xs)) D (.lst (cs.map V.int))) D = some (.lst (cs.map V.int)) := upd_same
      generalize upd (upd H l (.lst xs)) D (.lst (cs.map V.int)) = H1 at *
      refine ⟨_, rfl, 70, rfl, a, _, rfl, hS.ext e1, fun l2 nl2 => ?_⟩
      refine ⟨l2, _, rfl, .inl (SqL.of upd_same), _, _, rfl, rfl, .inl ⟨by decide, by decide⟩, _, _, rfl, rfl, by show 5 ≤ sizeLine; decide, fun r nr => ?_⟩
      have e2 := Ext.upd (o := .lst (cutV (ns.map V.int) Option.none (some 70))) nl2
      exact k r _ ((e1.trans e2).trans (Ext.upd nr)) ⟨D, cs, 0, 0, _, 0, upd_same, Ext.upd nr _ _ (e2 _ _ gD)⟩
theorem scDeep : FnScope ["many", "thing", "again"] ["many"] (defScope sDeep) := ⟨rfl, rfl, rfl, by decide +kernel, rfl, by decide +kernel, by decide +kernel⟩
theorem ok_deep {f : Addr} {fd : FuncData} (F : L2.Fun K "_law_deep" "_law_deep" sDeep f fd) (T : Gb mg) : FnOk P w K mg base CX0 1 f fd ["many"] spDeep := by
  refine F.ok scDeep (fun vs H Q E h => ?_) (fun cdv A outer s H vs Q E hr h => ?_)
  · obtain ⟨rfl, _⟩ := h
    rfl
  · obtain ⟨rfl, k⟩ := h
    refine ⟨_, pss_cons (ps_set (i := 1) scDeep.nd rfl (Or.inl rfl) (pe_tup pa_nil))
      (pss_cons (ps_for PassesOwn.never rfl (pi_range1 (by rfl) T.rng (pa_cons (pv 0) pa_nil)) (pg_name (i := 2) scDeep.nd rfl (Or.inl rfl)) (pss_one (ps_set (i := 1) scDeep.nd rfl (Or.inl rfl) (pe_tup (pa_cons (pv 1) pa_nil)))))
      (pss_one (ps_ret (pv 1)))), ?_⟩
    refine ⟨Nat.zero_le _, fun d nd => ?_⟩
    refine ⟨_, rfl, 38, rfl, by decide, by decide, for_range (lo := 0) (n := 38) (fun i σ' H' => ∃ (d : Addr) (ds : List V) (v : Option V), σ' = [some (.int 38), some (.ref d), v] ∧ Ext H H' ∧ H' d = some (.tup ds) ∧ (0 < i → ∃ q xs, ds = [.ref q] ∧ H' q = some (.tup xs))) ?_ ?_ ?_⟩
    · exact ⟨d, [], Option.none, rfl, Ext.upd nd, upd_same, fun z => absurd z (Nat.lt_irrefl 0)⟩
    · rintro i σ' H' hi ⟨d, ds, v, rfl, ex, hd, _⟩
      refine ⟨_, rfl, by show 1 ≤ sizeLine; decide, fun d1 nd1 => ?_⟩
      exact ⟨d1, [.ref d], _, rfl, ex.trans (Ext.upd nd1), upd_same, fun _ => ⟨d, ds, rfl, Ext.upd nd1 _ _ hd⟩⟩
    · rintro σ' H' ⟨d, ds, v, rfl, ex, hd, q0⟩
      obtain ⟨q, xs, rfl, hq⟩ := q0 (by decide)
      exact ⟨_, rfl, k d q xs H' ex hd hq⟩
end
end R36

set_option Elab.async false
set_option linter.all false
set_option maxRecDepth 100000
set_option maxHeartbeats 1000000
set_option pp.maxSteps 60
/-! The stretches. -/
namespace R36
open PySem L2
abbrev sStr : Stmt := top 9
def row (m i : Nat) : List (List Int) := (List.range (m - i)).map fun j : Nat => [0 + (i : Int), 0 + (i : Int) + (j : Int)]
def upto (m i : Nat) : List (List Int) := (List.range i).flatMap (row m)
theorem upto_succ (m i : Nat) : upto m (i + 1) = upto m i ++ row m i := by
  unfold upto
  rw [List.range_succ, List.flatMap_append, List.flatMap_singleton]
theorem row_take {m i j : Nat} (h : j < m - i) : (row m i).take (j + 1) = (row m i).take j ++ [[0 + (i : Int), 0 + (i : Int) + (j : Int)]] := by
  rw [List.take_succ]
  congr 1
  unfold row
  rw [List.getElem?_map, List.getElem?_range h]
  rfl
theorem row_len (m i : Nat) : (row m i).length = m - i := by unfold row; rw [List.length_map, List.length_range]
theorem upto_len (m : Nat) : ∀ i, (upto m i).length ≤ i * m
  | 0 => Nat.zero_le _
  | i + 1 => by
    rw [upto_succ, List.length_append, row_len, Nat.succ_mul]
    have := upto_len m i
    omega
/-- all stretches of m places -/
def strL (m : Nat) : List (List Int) := upto m m
theorem str_len {m : Nat} (h : m ≤ 8) : (strL m).length ≤ 64 := by
  have h1 := upto_len m m
  have h2 : m * m ≤ 8 * 8 := Nat.mul_le_mul h h
  unfold strL
  omega
def spStr : Sp := fun vs H Q _ => ∃ m : Nat, vs = [.int (m : Int)] ∧ m ≤ 8 ∧ ∀ (l : Addr) (as : List Addr) (H' : Hp), Ext H H' → H' l = some (.lst (as.map V.ref)) → PT2 H' as (strL m) → Q (.ref l) H'
theorem yes_in {σ : L2.St} {H : Hp} {A N : Hp → Prop} (h : A H) : tYes σ H (fun b H3 => if b = true then A H3 else N H3) := by
  show (if true = true then A H else N H)
  rw [if_pos rfl]
  exact h
section
variable {P : Program} {w : World} {K : PySem.W.Frag} {mg : Str → Option Value} {base : Heap}
abbrev strN : List Str := ["many", "begin", "end"]
theorem scStr : FnScope strN ["many"] (defScope sStr) := ⟨rfl, rfl, rfl, by decide +kernel, rfl, by decide +kernel, by decide +kernel⟩
theorem ok_str {f : Addr} {fd : FuncData} (F : L2.Fun K "stretches" "stretches" sStr f fd) (T : Gb mg) : FnOk P w K mg base CX0 1 f fd ["many"] spStr := by
  refine F.ok scStr (fun vs H Q E h => ?_) (fun cdv A outer s H vs Q E hr h => ?_)
  · obtain ⟨m, rfl, _⟩ := h
    rfl
  · obtain ⟨m, rfl, m8, k⟩ := h
    refine ⟨_, pss_one (ps_ret (pe_lc2 (own := [("begin", 1), ("end", 2)]) (vs1 := [2]) (g := gName 1) (g1 := gName 2) (tt := tYes) (tt1 := tYes) (te := tTup (tCons (tVar 1) (tCons (tVar 2) tNil))) (wi1 := iRng2 (tCons (tVar 1) (tCons (tVar 0) tNil))) rfl scStr.nd (pi_range1 (by rfl) T.rng (pa_cons (pv 0) pa_nil)) (blkOk_by (N := strN) (sc := defScope sStr) (by decide +kernel)) (by decide)
        (fun _ _ _ _ _ => pg_name (i := 1) scStr.nd rfl (Or.inl rfl)) (fun _ _ _ _ _ => pts_nil) (fun _ _ _ _ _ => pi_range2 (by rfl) T.rng (pa_cons (pv 1) (pa_cons (pv 0) pa_nil))) (fun _ _ _ _ _ => pg_name (i := 2) scStr.nd rfl (Or.inl rfl)) (fun _ _ _ _ _ => pts_nil)
        (fun _ _ _ _ _ => pe_tup (pa_cons (pv 1) (pa_cons (pv 2) pa_nil))))), ?_⟩
    refine ⟨_, rfl, (m : Int), rfl, by omega, by omega, fun D nD => ?_⟩
    refine ⟨fun i n H' => n + i = m ∧ Ext H H' ∧ ∃ as : List Addr, H' D = some (.lst (as.map V.ref)) ∧ PT2 H' as (upto m i), ⟨m, rfl, Ext.upd nD, [], upd_same, .nil⟩, ?_⟩
    rintro i n H1 ⟨en, e1, as, hD, pt⟩
    cases n with
    | zero =>
      have ei : i = m := by omega
      subst ei
      refine .inl ⟨?_, k D as H1 e1 hD pt⟩
      show (i : Int).toNat ≤ i
      omega
    | succ n =>
      refine .inr ⟨(by show i < (m : Int).toNat; omega), fun H' => n + (i + 1) = m ∧ Ext H H' ∧ ∃ as : List Addr, H' D = some (.lst (as.map V.ref)) ∧ PT2 H' as (upto m (i + 1)), fun H' z => ⟨n, Nat.lt_succ_self n, z⟩, ?_⟩
      rintro x H' ⟨rfl, rfl⟩
      refine ⟨rfl, ?_⟩
      refine yes_in (A := fun H3 => iRng2 (tCons (tVar 1) (tCons (tVar 0) tNil)) _ H3 _) ?_
      refine ⟨_, rfl, _, rfl, 0 + (i : Int), (m : Int), rfl, ⟨by omega, by omega, by omega, by omega⟩, ?_⟩
      refine ⟨fun j k H2 => k + j = m - i ∧ Ext H H2 ∧ ∃ as : List Addr, H2 D = some (.lst (as.map V.ref)) ∧ PT2 H2 as (upto m i ++ (row m i).take j), ⟨m - i, rfl, e1, as, hD, by rw [List.take_zero, List.append_nil]; exact pt⟩, ?_⟩
      rintro j k' H2 ⟨ek, e2, as2, hD2, pt2⟩
      cases k' with
      | zero =>
        refine .inl ⟨(by show ((m : Int) - (0 + (i : Int))).toNat ≤ j; omega), by omega, e2, as2, hD2, ?_⟩
        rw [List.take_of_length_le (by rw [row_len]; omega)] at pt2
        rw [upto_succ]
        exact pt2
      | succ k' =>
        refine .inr ⟨(by show j < ((m : Int) - (0 + (i : Int))).toNat; omega), fun H3 => k' + (j + 1) = m - i ∧ Ext H H3 ∧ ∃ as : List Addr, H3 D = some (.lst (as.map V.ref)) ∧ PT2 H3 as (upto m i ++ (row m i).take (j + 1)), fun H3 z => ⟨k', Nat.lt_succ_self k', z⟩, ?_⟩
        rintro x H3 ⟨rfl, rfl⟩
        have l1 := PT2.len pt2
        have l2 := upto_len m i
        have l3 : i * m ≤ 8 * 8 := Nat.mul_le_mul (by omega) m8
        rw [List.length_append, List.length_take, row_len] at l1
        refine ⟨rfl, tyes_in ⟨_, rfl, _, rfl, by show 2 ≤ sizeLine; decide, fun t nt => ⟨_, Ext.upd nt _ _ hD2, small1000 (by rw [List.length_map]; omega), by omega, ?_, as2 ++ [t], ?_, ?_⟩⟩⟩
        · intro b o eo
          rw [upd_ne (ne_of_none eo nD)]
          exact Ext.upd nt _ _ (e2 _ _ eo)
        · rw [upd_same, List.map_append]
          rfl
        · rw [row_take (by omega), ← List.append_assoc]
          have hD4 := Ext.upd (o := .tup [V.int (0 + (i : Int)), V.int (0 + (i : Int) + (j : Int))]) nt _ _ hD2
          refine PT2.snoc (PT2.mono (fun b xs z => ?_) pt2) ?_
          · rw [upd_ne (lst_ne hD4 (Ext.upd nt _ _ z))]
            exact Ext.upd nt _ _ z
          · rw [upd_ne (ne_of_none hD2 nt).symm, upd_same]
            rfl
end
end R36

set_option Elab.async false
set_option linter.all false
set_option maxRecDepth 100000
set_option maxHeartbeats 1000000
set_option pp.maxSteps 60
/-! What a stranger tells, judged. -/
namespace R36
open PySem L2
abbrev sReach : Stmt := top 10
section
variable {X : Cx}
def rLenK : List V → Hp → VK → Prop := fun xs H Q => ∃ (p : Addr) (kvs : List (Key × V)), xs = [.ref p] ∧ H p = some (.dK kvs) ∧ Q (.int ((kvs.length : Nat) : Int)) H
theorem call_len_dK : CallR X (.builtin "len") rLenK := by
  rintro pins s σ H xs us Q I r ⟨p, kvs, rfl, hp, q⟩
  obtain ⟨u, rfl, rx⟩ := vals1 r
  cases rx
  exact d_len I (.inl hp) fun t s' I' => ⟨.int _, H, I', ⟨t, rfl⟩, q⟩
end
/-- the key of a stretch -/
def kS (l : List Int) : List Key := l.map Sum.inl
theorem kS_vals (l : List Int) : (kS l).map kV = l.map V.int := by
  unfold kS
  rw [List.map_map]
  rfl
/-- a right number for a stretch -/
def OkR (kvs : List (List Key × V)) (l : List Int) : Prop := ∃ i : Int, 0 ≤ i ∧ valV kvs (kS l) = some (.int i)
def GoodR (kvs : List (List Key × V)) (m : Nat) : Prop := kvs.length = (strL m).length ∧ ∀ l ∈ strL m, OkR kvs l
def spReach (K : PySem.W.Frag) : Sp := fun vs H Q _ => ∃ (m : Nat) (x : V), vs = [.int (m : Int), x] ∧ 1 ≤ m ∧ m ≤ 8 ∧
  ((∃ t, TyX K H x t ∧ PySem.W.kitOne K t (.type "dict") = some false ∧ Q (.bl false) H) ∨
   (∃ p n, x = .ref p ∧ H p = some (mixO p n) ∧ n ≤ 1000 ∧ n ≠ (strL m).length ∧ ∀ H', Ext H H' → Q (.bl false) H') ∨
   (∃ p, x = .ref p ∧ H p = some (.dK []) ∧ ∀ H', Ext H H' → Q (.bl false) H') ∨
   ∃ p kvs, x = .ref p ∧ H p = some (.dT kvs) ∧ (∀ kv ∈ kvs, Th K H 0 kv.2) ∧ ∀ (bb : Bool) (H' : Hp), (bb = true ↔ GoodR kvs m) → Ext H H' → Q (.bl bb) H')
theorem row_pos {m i : Nat} (h : i < m) : 1 ≤ (row m i).length := by rw [row_len]; omega
theorem str_pos {m : Nat} (h : 1 ≤ m) : 1 ≤ (strL m).length := by
  unfold strL
  obtain ⟨k, rfl⟩ : ∃ k, m = k + 1 := ⟨m - 1, by omega⟩
  rw [upto_succ, List.length_append]
  have := row_pos (m := k + 1) (i := k) (by omega)
  omega
theorem val_mem {kvs : List (List Key × V)} {k : List Key} {v : V} (h : valV kvs k = some v) : ∃ kv ∈ kvs, kv.2 = v := by
  unfold valV at h
  obtain ⟨p, hp, e⟩ := Option.map_eq_some_iff.mp h
  exact ⟨p, List.mem_of_find?_eq_some hp, e⟩
section
variable {P : Program} {w : World} {K : PySem.W.Frag} {mg : Str → Option Value} {base : Heap}
abbrev reachN : List Str := ["many", "thing", "stretch"]
theorem scReach : FnScope reachN ["many", "thing"] (defScope sReach) := ⟨rfl, rfl, rfl, by decide +kernel, rfl, by decide +kernel, by decide +kernel⟩
theorem ok_reach {f : Addr} {fd : FuncData} (F : L2.Fun K "is_reaches" "is_reaches" sReach f fd) (T : Gb mg) (nD : mg "dict" = none) (cS : Cal P w K mg base 1 "stretches" spStr []) (cI : Cal P w K mg base 1 "is_integer" (spInteger K) []) : FnOk P w K mg base CX0 2 f fd ["many", "thing"] (spReach K) := by
  refine F.ok scReach (fun vs H Q E h => ?_) (fun cdv A outer s H vs Q E hr h => ?_)
  · obtain ⟨m, x, rfl, _⟩ := h
    rfl
  · obtain ⟨m, x, rfl, m1, m8, k⟩ := h
    have hu1 := Nat.lt_of_le_of_lt (Nat.add_le_add_left (show 1 ≤ 64 by decide) _) hr.units
    refine ⟨_, C8.pss_cut (ps_if (PW.pt (pw_or (pt_not (pt_val (pe_callB (CallR.or call_isi call_isi_mix) (by rfl) T.isi (by decide +kernel) (pa_cons (pv 1) (pa_cons (pe_bltn (v := .ty "dict") (by rfl) nD (by decide +kernel) rfl) pa_nil)))))
          (pw_or1 (pt_cmpR op_ne (pe_callB (CallR.or (CallR.or call_len_dT call_len_dK) call_len_mix) (by rfl) T.len PySem.boot_len (pa_cons (pv 1) pa_nil)) (pe_callB call_len_seq (by rfl) T.len PySem.boot_len (pa_cons (C8.pe_c cS hr (by decide) (by rfl) (pa_cons (pv 0) pa_nil)) pa_nil)) (nomark _)))))
        (pss_one (ps_ret pe_bl)) pss_nil)
      (pss_cons (ps_for PassesOwn.never rfl (pi_list (C8.pe_c cS hr (by decide) (by rfl) (pa_cons (pv 0) pa_nil))) (pg_name (i := 2) scReach.nd rfl (Or.inl rfl))
        (pss_one (ps_if (PW.pt (pw_or (pt_cmp (pc_dnotin hu1 (pv 2) (pv 1)) (by rfl)) (pw_or (pt_not (pt_val (C8.pe_c cI hr (by decide) (by rfl) (pa_cons (pe_dget hu1 (pv 1) (pv 2) (fun _ _ => rfl)) pa_nil))))
            (pw_or1 (pt_cmpR op_lt (pe_dget hu1 (pv 1) (pv 2) (fun _ _ => rfl)) pe_int (nomark _)))))) (pss_one (ps_ret pe_bl)) pss_nil)))
      (pss_one (ps_ret pe_bl))), ?_⟩
    rcases k with ⟨t, ty, kt, q⟩ | ⟨p, n, rfl, hp, hn, ne, q⟩ | ⟨p, rfl, hp, q⟩ | ⟨p, kvs, rfl, hp, th, q⟩
    · refine ⟨fun _ _ => False, ?_, fun _ _ z => z.elim⟩
      refine ⟨_, rfl, .inl ⟨x, .ty "dict", t, .type "dict", _, rfl, .ty _, ty, kt, _, rfl, ?_⟩⟩
      exact iteT (iteT q)
    · refine ⟨fun _ _ => False, ?_, fun _ _ z => z.elim⟩
      refine ⟨_, rfl, .inr ⟨p, n, .ty "dict", .type "dict", true, rfl, .ty _, hp, kit_ty (by decide +kernel), _, rfl, ?_⟩⟩
      refine iteF ?_
      refine ⟨_, rfl, .inr ⟨p, n, rfl, hp, hn, _, rfl, m, rfl, m8, fun l as H' e1 hl pt => ?_⟩⟩
      have ln := PT2.len pt
      refine ⟨l, _, rfl, .inl (SqL.of hl), rfl, _, rfl, ?_⟩
      refine ite2 (fun _ => q H' e1) (fun z => ?_)
      exfalso
      apply z
      have : ¬ (V.int (n : Int) = V.int ((as.map V.ref).length : Int)) := fun e => ne (by injection e with e; rw [List.length_map] at e; omega)
      rw [decide_eq_false this]
      rfl
    · refine ⟨fun _ _ => False, ?_, fun _ _ z => z.elim⟩
      refine ⟨_, rfl, .inl ⟨_, .ty "dict", _, .type "dict", true, rfl, .ty _, .base (.dK hp), kit_ty (by decide +kernel), _, rfl, ?_⟩⟩
      refine iteF ?_
      refine ⟨_, rfl, .inl (.inr ⟨p, [], rfl, hp, _, rfl, m, rfl, m8, fun l as H' e1 hl pt => ?_⟩)⟩
      have ln := PT2.len pt
      refine ⟨l, _, rfl, .inl (SqL.of hl), rfl, _, rfl, ?_⟩
      refine ite2 (fun _ => q H' e1) (fun z => ?_)
      exfalso
      apply z
      have sp := str_pos m1
      have : ¬ (V.int (([] : List (Key × V)).length : Int) = V.int ((as.map V.ref).length : Int)) := fun e => by
        injection e with e
        rw [List.length_map, List.length_nil] at e
        omega
      rw [decide_eq_false this]
      rfl
    · refine ⟨fun σ' H' => σ' = [some (.int (m : Int)), some (.ref p), Option.none] ∧ Ext H H' ∧ kvs.length = (strL m).length, ?_, ?_⟩
      · refine ⟨_, rfl, .inl ⟨_, .ty "dict", _, .type "dict", true, rfl, .ty _, .base (.dT hp), kit_ty (by decide +kernel), _, rfl, ?_⟩⟩
        refine iteF ?_
        refine ⟨_, rfl, .inl (.inl ⟨p, kvs, rfl, hp, _, rfl, m, rfl, m8, fun l as H' e1 hl pt => ?_⟩)⟩
        have ln := PT2.len pt
        refine ⟨l, _, rfl, .inl (SqL.of hl), rfl, _, rfl, ?_⟩
        by_cases e : kvs.length = (strL m).length
        · refine ite2 (fun z => ?_) (fun _ => ⟨rfl, e1, e⟩)
          exfalso
          have : V.int ((kvs.length : Nat) : Int) = V.int ((as.map V.ref).length : Int) := by rw [List.length_map, ln, e]
          rw [decide_eq_true this] at z
          cases z
        · refine ite2 (fun _ => q false H' ⟨fun z => Bool.noConfusion z, fun z => absurd z.1 e⟩ e1) (fun z => ?_)
          exfalso
          apply z
          have : ¬ V.int ((kvs.length : Nat) : Int) = V.int ((as.map V.ref).length : Int) := fun z => e (by injection z with z; rw [List.length_map] at z; omega)
          rw [decide_eq_false this]
          rfl
      · rintro σ' H1 ⟨rfl, e1, hlen⟩
        refine ⟨_, rfl, m, rfl, m8, fun l as H2 e2 hl pt => ?_⟩
        have ln := PT2.len pt
        have e12 := e1.trans e2
        refine ⟨l, rfl, ⟨_, SqL.of hl⟩, for_list (K := K) (a := l) (xs := as.map V.ref) (fun i σ' H' => (∃ v2 : Option V, σ' = [some (.int (m : Int)), some (.ref p), v2]) ∧ Ext H2 H' ∧ ∀ j, j < i → ∀ u, (strL m)[j]? = some u → OkR kvs u) ⟨⟨_, rfl⟩, Ext.rfl', fun j hj => absurd hj (Nat.not_lt_zero j)⟩ (fun i σ' H' _ z => SqL.of (z.2.1 _ _ hl)) ?_ ?_⟩
        · rintro i y σ' H' hy ⟨⟨v2, rfl⟩, ex, all⟩
          rw [List.getElem?_map] at hy
          cases hi : as[i]? with
          | none => rw [hi] at hy; cases hy
          | some b =>
            rw [hi] at hy
            cases hy
            obtain ⟨u, hu', hb⟩ := pt.get hi
            have hb' := ex _ _ hb
            rw [← kS_vals] at hb'
            have hp' := ex _ _ (e12 _ _ hp)
            have umem := List.mem_of_getElem? hu'
            have bad : ¬ OkR kvs u → ∀ H'', Ext H' H'' → Q (.bl false) H'' := fun no H'' e => q false H'' ⟨fun z => Bool.noConfusion z, fun z => absurd (z.2 u umem) no⟩ (e12.trans (ex.trans e))
            have dg := DGet.t (H := H') (kvs := kvs) (k := kS u) hp' hb'
            cases hv : valV kvs (kS u) with
            | none =>
              rw [hv] at dg
              refine ⟨_, rfl, _, rfl, p, _, rfl, dg, _, rfl, ?_⟩
              exact iteT (iteT (bad (fun ⟨i, _, e⟩ => by rw [hv] at e; cases e) _ Ext.rfl'))
            | some v =>
              rw [hv] at dg
              refine ⟨_, rfl, _, rfl, p, _, rfl, dg, _, rfl, ?_⟩
              refine iteF ?_
              obtain ⟨kv, hkv, ekv⟩ := val_mem hv
              have tv : Th K H' 0 v := by
                rw [← ekv]
                exact (th kv hkv).ext (e12.trans ex)
              refine ⟨_, rfl, _, rfl, p, v, rfl, dg, v, rfl, tv, _, rfl, ?_⟩
              cases v with
              | int z =>
                refine iteF ⟨_, rfl, _, rfl, p, _, rfl, dg, _, _, rfl, rfl, _, rfl, ?_⟩
                refine ite2 (fun q2 => ?_) (fun q2 => ?_)
                · refine bad (fun ⟨i, h0, e⟩ => ?_) _ Ext.rfl'
                  rw [hv] at e
                  cases e
                  have := of_decide_eq_true q2
                  omega
                · refine ⟨⟨_, rfl⟩, ex, fun j hj u2 hu2 => ?_⟩
                  by_cases e : j = i
                  · subst e
                    rw [hu'] at hu2
                    cases hu2
                    refine ⟨z, ?_, hv⟩
                    have : ¬ z < 0 := fun y => q2 (decide_eq_true y)
                    omega
                  · exact all j (by omega) u2 hu2
              | _ => exact iteT (iteT (bad (fun ⟨i, _, e⟩ => by rw [hv] at e; cases e) _ Ext.rfl'))
        · rintro σ' H' ⟨⟨v2, rfl⟩, ex, all⟩
          refine q true H' ⟨fun _ => ⟨hlen, fun u hu' => ?_⟩, fun _ => rfl⟩ (e12.trans ex)
          obtain ⟨j, hj⟩ := List.mem_iff_getElem?.mp hu'
          have lt := (List.getElem?_eq_some_iff.mp hj).1
          exact all j (by rw [List.length_map, ln]; exact lt) u hj
end
end R36

set_option Elab.async false
set_option linter.all false
set_option maxRecDepth 100000
set_option maxHeartbeats 1000000
set_option pp.maxSteps 60
/-! The count of a stretch; the bars told. -/
namespace R36
open PySem L2
abbrev sCount : Stmt := top 11
abbrev sBars : Stmt := top 12
def AllI (kvs : List (List Key × V)) : Prop := ∀ kv ∈ kvs, ∃ i : Int, kv.2 = .int i
def val (kvs : List (List Key × V)) (b e : Int) : Int := match valV kvs [.inl b, .inl e] with
  | some (.int i) => i
  | _ => 0
theorem getD_val {kvs : List (List Key × V)} (h : AllI kvs) (b e : Int) : (valV kvs [.inl b, .inl e]).getD (.int 0) = .int (val kvs b e) := by
  unfold val
  cases q : valV kvs [.inl b, .inl e] with
  | none => rfl
  | some v =>
    obtain ⟨kv, hk, ev⟩ := val_mem q
    obtain ⟨i, ei⟩ := h kv hk
    rw [ei] at ev
    subst ev
    rfl
theorem val_some {kvs : List (List Key × V)} {b e i : Int} (h : valV kvs [.inl b, .inl e] = some (.int i)) : i = val kvs b e := by
  unfold val
  rw [h]
def cnt (kvs : List (List Key × V)) (b e : Int) : Int := val kvs b e - (val kvs (b - 1) e + val kvs b (e + 1)) + val kvs (b - 1) (e + 1)
def spCount : Sp := fun vs H Q _ => ∃ (p : Addr) (b e : Int) (kvs : List (List Key × V)), vs = [.ref p, .int b, .int e] ∧ H p = some (.dT kvs) ∧ AllI kvs ∧ (∃ i, valV kvs [.inl b, .inl e] = some (.int i)) ∧ ∀ H', Ext H H' → Q (.int (cnt kvs b e)) H'
section
variable {P : Program} {w : World} {K : PySem.W.Frag} {mg : Str → Option Value} {base : Heap}
abbrev countN : List Str := ["told", "begin", "end", "wider"]
theorem scCount : FnScope countN ["told", "begin", "end"] (defScope sCount) := ⟨rfl, rfl, rfl, by decide +kernel, rfl, by decide +kernel, by decide +kernel⟩
theorem ok_count {f : Addr} {fd : FuncData} (F : L2.Fun K "count_told" "count_told" sCount f fd) : FnOk P w K mg base CX0 1 f fd ["told", "begin", "end"] spCount := by
  refine F.ok scCount (fun vs H Q E h => ?_) (fun cdv A outer s H vs Q E hr h => ?_)
  · obtain ⟨p, b, e, kvs, rfl, _⟩ := h
    rfl
  · obtain ⟨p, b, e, kvs, rfl, hp, ai, ⟨i, hi⟩, k⟩ := h
    have hu1 := Nat.lt_of_le_of_lt (Nat.add_le_add_left (show 1 ≤ 64 by decide) _) hr.units
    refine ⟨_, pss_cons (ps_set (i := 3) scCount.nd rfl (Or.inl rfl) (pe_op op_add (pe_dget2 hu1 (pv 0) (pe_tup (pa_cons (pe_op op_sub (pv 1) pe_int) (pa_cons (pv 2) pa_nil))) pe_int ⟨rfl, rfl, rfl, rfl⟩) (pe_dget2 hu1 (pv 0) (pe_tup (pa_cons (pv 1) (pa_cons (pe_op op_add (pv 2) pe_int) pa_nil))) pe_int ⟨rfl, rfl, rfl, rfl⟩)))
      (pss_one (ps_ret (pe_op op_add (pe_op op_sub (pe_dget hu1 (pv 0) (pe_tup (pa_cons (pv 1) (pa_cons (pv 2) pa_nil))) (fun _ _ => rfl)) (pv 3)) (pe_dget2 hu1 (pv 0) (pe_tup (pa_cons (pe_op op_sub (pv 1) pe_int) (pa_cons (pe_op op_add (pv 2) pe_int) pa_nil))) pe_int ⟨rfl, rfl, rfl, rfl⟩)))), ?_⟩
    have isd : ∀ {H' : Hp}, Ext H H' → IsD H' p := fun e => .inr ⟨kvs, .inl (e _ _ hp)⟩
    refine ⟨_, rfl, p, rfl, isd Ext.rfl', _, rfl, _, _, rfl, rfl, _, rfl, by show 2 ≤ sizeLine; decide, fun t1 n1 => ?_⟩
    have x1 := Ext.upd (o := .tup [.int (b - 1), .int e]) n1
    refine ⟨_, DGet.t (k := [.inl (b - 1), .inl e]) (x1 _ _ hp) upd_same, ?_⟩
    rw [getD_val ai]
    refine ⟨_, rfl, p, rfl, isd x1, _, rfl, _, rfl, _, _, rfl, rfl, by show 2 ≤ sizeLine; decide, fun t2 n2 => ?_⟩
    have x2 := Ext.upd (o := .tup [.int b, .int (e + 1)]) n2
    refine ⟨_, DGet.t (k := [.inl b, .inl (e + 1)]) (x2 _ _ (x1 _ _ hp)) upd_same, ?_⟩
    rw [getD_val ai]
    refine ⟨_, _, rfl, rfl, ?_⟩
    have x12 := x1.trans x2
    refine ⟨_, rfl, _, rfl, _, rfl, by show 2 ≤ sizeLine; decide, fun t3 n3 => ?_⟩
    have x3 := Ext.upd (o := .tup [.int b, .int e]) n3
    have dg := DGet.t (k := [.inl b, .inl e]) (x3 _ _ (x12 _ _ hp)) (upd_same (H := upd (upd H t1 (.tup [.int (b - 1), .int e])) t2 (.tup [.int b, .int (e + 1)])) (a := t3) (o := .tup [.int b, .int e]))
    rw [hi] at dg
    refine ⟨p, _, rfl, dg, _, rfl, _, _, rfl, rfl, ?_⟩
    refine ⟨_, rfl, p, rfl, isd (x12.trans x3), _, rfl, _, _, rfl, rfl, _, rfl, _, _, rfl, rfl, by show 2 ≤ sizeLine; decide, fun t4 n4 => ?_⟩
    have x4 := Ext.upd (o := .tup [.int (b - 1), .int (e + 1)]) n4
    refine ⟨_, DGet.t (k := [.inl (b - 1), .inl (e + 1)]) (x4 _ _ (x3 _ _ (x12 _ _ hp))) upd_same, ?_⟩
    rw [getD_val ai]
    refine ⟨_, _, rfl, rfl, ?_⟩
    rw [val_some hi]
    exact k _ (x12.trans (x3.trans x4))
end
end R36

set_option Elab.async false
set_option linter.all false
set_option maxRecDepth 100000
set_option maxHeartbeats 1000000
set_option pp.maxSteps 60
/-! The bars told. -/
namespace R36
open PySem L2
def c3 (kvs : List (List Key × V)) (l : List Int) : Int := cnt kvs (l.getD 0 0) (l.getD 1 0)
/-- what is told of stretches, from some on: the first one of too few, or the bars -/
def outL (kvs : List (List Key × V)) : List (List Int) → List (List Int) → List Int ⊕ List (List Int)
  | [], acc => .inr acc
  | l :: r, acc => if c3 kvs l < 0 then .inl l else if 0 < c3 kvs l then outL kvs r (acc ++ [[l.getD 0 0, l.getD 1 0, c3 kvs l]]) else outL kvs r acc
def Told (H : Hp) (r : Addr) : List Int ⊕ List (List Int) → Prop
  | .inl l => H r = some (.tup [.str "none", .int (l.getD 0 0), .int (l.getD 1 0)])
  | .inr acc => ∃ (q : Addr) (as : List Addr), H r = some (.tup [.str "bars", .ref q]) ∧ H q = some (.tup (as.map V.ref)) ∧ PT2 H as acc
theorem Told.ext {H H' : Hp} {r : Addr} {o : List Int ⊕ List (List Int)} (e : Ext H H') (h : Told H r o) : Told H' r o := by
  cases o with
  | inl l => exact e _ _ h
  | inr acc =>
    obtain ⟨q, as, h1, h2, h3⟩ := h
    exact ⟨q, as, e _ _ h1, e _ _ h2, PT2.mono (fun _ _ z => e _ _ z) h3⟩
/-- each stretch is two numbers -/
theorem upto_pair {m : Nat} : ∀ {i : Nat} {l : List Int}, l ∈ upto m i → ∃ b e : Int, l = [b, e]
  | 0, l, h => by cases h
  | i + 1, l, h => by
    rw [upto_succ] at h
    rcases List.mem_append.mp h with h | h
    · exact upto_pair h
    · unfold row at h
      obtain ⟨j, _, rfl⟩ := List.mem_map.mp h
      exact ⟨_, _, rfl⟩
def spBars (K : PySem.W.Frag) (NN NR : Addr) : Sp := fun vs H Q E => ∃ x y : V, vs = [x, y] ∧
  ((Th K H 0 x ∧ (∀ i : Int, x = .int i → ¬ (1 ≤ i ∧ i ≤ 8)) ∧ ∀ H', Ext H H' → E (.ref NN) none H') ∨
   ∃ m : Nat, x = .int (m : Int) ∧ 1 ≤ m ∧ m ≤ 8 ∧
    ((∃ t, TyX K H y t ∧ PySem.W.kitOne K t (.type "dict") = some false ∧ ∀ H', Ext H H' → E (.ref NR) none H') ∨
     (∃ p n, y = .ref p ∧ H p = some (mixO p n) ∧ n ≤ 1000 ∧ n ≠ (strL m).length ∧ ∀ H', Ext H H' → E (.ref NR) none H') ∨
     (∃ p, y = .ref p ∧ H p = some (.dK []) ∧ ∀ H', Ext H H' → E (.ref NR) none H') ∨
     (∃ p kvs, y = .ref p ∧ H p = some (.dT kvs) ∧ (∀ kv ∈ kvs, Th K H 0 kv.2) ∧ ¬ GoodR kvs m ∧ ∀ H', Ext H H' → E (.ref NR) none H') ∨
     ∃ p kvs, y = .ref p ∧ H p = some (.dT kvs) ∧ AllI kvs ∧ GoodR kvs m ∧ ∀ (r : Addr) (H' : Hp), Ext H H' → Told H' r (outL kvs (strL m) []) → Q (.ref r) H'))
section
variable {P : Program} {w : World} {K : PySem.W.Frag} {mg : Str → Option Value} {base : Heap}
/-- a raise of a class without fields -/
theorem raise0 {C : Addr} {x : Str} {fI : Addr} (N : ErrC K mg x C fI) {H H1 : Hp} {E : XK} {τ : L2.St} (e : Ext H H1) (k : ∀ H', Ext H H' → E (.ref C) none H') :
    tExv C spF0 tNil τ H1 (fun x J => ∃ a C', x = .ref a ∧ J a = some (exo a C' none) ∧ H a = none ∧ OexC K C' ∧ E (.ref C') none (delH J a)) :=
  ⟨Nat.zero_le _, fun a na => ⟨a, rfl, rfl, a, C, rfl, upd_same, none_back e na, N.ex, k _ (ext_delH e na)⟩⟩
abbrev barsN : List Str := ["many", "told", "found", "begin", "end", "count"]
theorem scBars : FnScope barsN ["many", "told"] (defScope sBars) := ⟨rfl, rfl, rfl, by decide +kernel, rfl, by decide +kernel, by decide +kernel⟩
theorem ok_bars {f fI NN NR : Addr} {fd fdI : FuncData} (F : L2.Fun K "bars_told" "bars_told" sBars f fd) (T : Gb mg) (mp : ∃ t, mg "MOST_PLACES" = some (.int 8 t)) (N1 : ErrC K mg "NoNumber" NN fI) (N2 : ErrC K mg "NoReaches" NR fI) (FI : FnOk P w K mg base CX0 1 fI fdI ["self"] spF0) (bI : Binds K fdI ["self"] [])
    (cN : Cal P w K mg base 2 "is_number" (spNumber K) []) (cR : Cal P w K mg base 2 "is_reaches" (spReach K) []) (cS : Cal P w K mg base 1 "stretches" spStr []) (cC : Cal P w K mg base 1 "count_told" spCount []) : FnOk P w K mg base (L2.CX P w) 3 f fd ["many", "told"] (spBars K NN NR) := by
  obtain ⟨t8, h8⟩ := mp
  refine F.okX scBars (fun vs H Q E h => ?_) (fun cdv A outer s H vs Q E hr h => ?_)
  · obtain ⟨x, y, rfl, _⟩ := h
    rfl
  · obtain ⟨x, y, rfl, k⟩ := h
    have hr2 : Room 2 _ := hr.mono (by decide)
    refine ⟨_, C8.pss_cut (ps_if (PW.pt (pw_or (pt_not (pt_val (C8.pe_c cN hr (by decide) (by rfl) (pa_cons (pe_glob (v := .int 8) rfl h8 ⟨_, rfl⟩) (pa_cons (pv 0) pa_nil))))) (pw_or1 (pt_cmpR op_eq (pv 0) pe_int (nomark _)))))
        (pss_one (ps_raise_v H K (takes_of rfl rfl rfl rfl) rfl rfl (pe_exv0 N1.ex N1.iC N1.tI FI hr2 bI pass0 (by rfl) N1.gC))) pss_nil)
      (C8.pss_cut (ps_if (pt_not (pt_val (C8.pe_c cR hr (by decide) (by rfl) (pa_cons (pv 0) (pa_cons (pv 1) pa_nil))))) (pss_one (ps_raise_v H K (takes_of rfl rfl rfl rfl) rfl rfl (pe_exv0 N2.ex N2.iC N2.tI FI hr2 bI pass0 (by rfl) N2.gC))) pss_nil)
      (pss_cons (ps_set (i := 2) scBars.nd rfl (Or.inl rfl) (pe_lst pa_nil))
      (pss_cons (ps_for (passes_of rfl) rfl (pi_list (C8.pe_c cS hr (by decide) (by rfl) (pa_cons (pv 0) pa_nil))) (pg_tup rfl (pgs_cons (pg_name (i := 3) scBars.nd rfl (Or.inl rfl)) (pgs_cons (pg_name (i := 4) scBars.nd rfl (Or.inl rfl)) pgs_nil)))
        (pss_cons (ps_set (i := 5) scBars.nd rfl (Or.inl rfl) (C8.pe_c cC hr (by decide) (by rfl) (pa_cons (pv 1) (pa_cons (pv 3) (pa_cons (pv 4) pa_nil)))))
        (pss_cons (ps_if (pt_cmpR op_lt (pv 5) pe_int (nomark _)) (pss_one (ps_ret (pe_tup (pa_cons pe_str (pa_cons (pv 3) (pa_cons (pv 4) pa_nil)))))) pss_nil)
        (pss_one (ps_if (pt_cmpR op_gt (pv 5) pe_int (nomark _)) (pss_one (ps_expr (pe_bm PySem.F.plainAttrs_list PySem.F.slot_list_append PySem.F.type_list_append mt_append (pv 2) (pa_cons (pe_tup (pa_cons (pv 3) (pa_cons (pv 4) (pa_cons (pv 5) pa_nil)))) pa_nil)))) pss_nil)))))
      (pss_one (ps_ret (pe_tup (pa_cons pe_str (pa_cons (pe_callTy call_tuple_of (by rfl) T.tup (by decide +kernel) (pa_cons (pv 2) pa_nil)) pa_nil)))))))), ?_⟩
    rcases k with ⟨tx, no, kE⟩ | ⟨m, rfl, m1, m8, k⟩
    · refine ⟨fun _ _ => False, ?_, fun _ _ z => z.elim⟩
      refine ⟨_, rfl, 8, x, rfl, tx, _, rfl, ?_⟩
      cases hb : numV 8 x with
      | false => exact iteT (iteT (raise0 N1 Ext.rfl' fun H' e => kE H' e))
      | true =>
        obtain ⟨i, rfl, h0, h8'⟩ := numV_true.mp hb
        have e0 : i = 0 := by
          have := no i rfl
          omega
        subst e0
        refine iteF ⟨_, rfl, rfl, _, rfl, ?_⟩
        exact iteT (raise0 N1 Ext.rfl' fun H' e => kE H' e)
    · refine ⟨fun σ' H' => σ' = [some (.int (m : Int)), some y, Option.none, Option.none, Option.none, Option.none] ∧ H' = H, ?_, ?_⟩
      · refine ⟨_, rfl, 8, _, rfl, Th.int _, _, rfl, ?_⟩
        rw [numV_true.mpr ⟨_, rfl, by omega, by omega⟩]
        refine iteF ⟨_, rfl, rfl, _, rfl, ?_⟩
        have : ¬ V.int (m : Int) = V.int 0 := fun z => by injection z with z; omega
        rw [decide_eq_false this]
        exact iteF ⟨rfl, rfl⟩
      rintro σ' H0 ⟨rfl, rfl⟩
      have bad : ∀ {H1 : Hp}, Ext H0 H1 → (∀ H', Ext H0 H' → E (.ref NR) none H') → _ := fun {H1} e kE => raise0 (τ := [some (.int (m : Int)), some y, Option.none, Option.none, Option.none, Option.none]) N2 e kE
      rcases k with ⟨t, ty, kt, kE⟩ | ⟨p, n, rfl, hp, hn, ne, kE⟩ | ⟨p, rfl, hp, kE⟩ | ⟨p, kvs, rfl, hp, th, ng, kE⟩ | ⟨p, kvs, rfl, hp, ai, gd, kQ⟩
      · refine ⟨fun _ _ => False, ?_, fun _ _ z => z.elim⟩
        refine ⟨_, rfl, _, rfl, m, y, rfl, m1, m8, .inl ⟨t, ty, kt, _, rfl, ?_⟩⟩
        exact iteT (bad Ext.rfl' kE)
      · refine ⟨fun _ _ => False, ?_, fun _ _ z => z.elim⟩
        refine ⟨_, rfl, _, rfl, m, _, rfl, m1, m8, .inr (.inl ⟨p, n, rfl, hp, hn, ne, fun H' e => ⟨_, rfl, ?_⟩⟩)⟩
        exact iteT (bad e kE)
      · refine ⟨fun _ _ => False, ?_, fun _ _ z => z.elim⟩
        refine ⟨_, rfl, _, rfl, m, _, rfl, m1, m8, .inr (.inr (.inl ⟨p, rfl, hp, fun H' e => ⟨_, rfl, ?_⟩⟩))⟩
        exact iteT (bad e kE)
      · refine ⟨fun _ _ => False, ?_, fun _ _ z => z.elim⟩
        refine ⟨_, rfl, _, rfl, m, _, rfl, m1, m8, .inr (.inr (.inr ⟨p, kvs, rfl, hp, th, fun bb H' hb e => ⟨_, rfl, ?_⟩⟩))⟩
        cases bb with
        | false => exact iteT (bad e kE)
        | true => exact absurd (hb.mp rfl) ng
      · refine ⟨fun σ' H' => σ' = [some (.int (m : Int)), some (.ref p), Option.none, Option.none, Option.none, Option.none] ∧ Ext H0 H', ?_, ?_⟩
        · refine ⟨_, rfl, _, rfl, m, _, rfl, m1, m8, .inr (.inr (.inr ⟨p, kvs, rfl, hp, fun kv hk => ?_, fun bb H' hb e => ⟨_, rfl, ?_⟩⟩))⟩
          · obtain ⟨i, ei⟩ := ai kv hk
            rw [ei]
            exact Th.int i
          · cases bb with
            | false => exact absurd (hb.mpr gd) Bool.false_ne_true
            | true => exact iteF ⟨rfl, e⟩
        rintro σ' H1 ⟨rfl, e1⟩
        refine ⟨Nat.zero_le _, fun D nD => ?_⟩
        have xD := Ext.upd (o := .lst []) nD
        refine ⟨_, rfl, m, rfl, m8, fun l as H2 e2 hl pt => ?_⟩
        have ln := PT2.len pt
        have sp := str_pos m1
        have s64 := str_len m8
        have hD2 : H2 D = some (.lst []) := e2 _ _ upd_same
        have nlD : l ≠ D := fun e => by
          rw [e, hD2] at hl
          injection hl with hl
          injection hl with hl
          have := congrArg List.length hl
          rw [List.length_map, List.length_nil] at this
          omega
        have e12 : Ext H1 H2 := xD.trans e2
        refine ⟨l, rfl, ⟨_, SqL.of hl⟩, for_list (K := K) (a := l) (xs := as.map V.ref) (fun i σ' H' => (∃ v3 v4 v5 : Option V, σ' = [some (.int (m : Int)), some (.ref p), some (.ref D), v3, v4, v5]) ∧ Ext H1 H' ∧ H' l = some (.lst (as.map V.ref)) ∧ PT2 H' as (strL m) ∧
          ∃ bs acc, H' D = some (.lst (bs.map V.ref)) ∧ PT2 H' bs acc ∧ bs.length ≤ i ∧ outL kvs ((strL m).drop i) acc = outL kvs (strL m) []) ⟨⟨_, _, _, rfl⟩, e12, hl, pt, [], [], hD2, .nil, Nat.le_refl _, rfl⟩ (fun i σ' H' _ z => SqL.of z.2.2.1) ?_ ?_⟩
        · rintro i y σ' H' hy ⟨⟨v3, v4, v5, rfl⟩, ex, hl', pt', bs, acc, hD', pb, lb, eo⟩
          rw [List.getElem?_map] at hy
          cases hi : as[i]? with
          | none => rw [hi] at hy; cases hy
          | some b =>
            rw [hi] at hy
            cases hy
            obtain ⟨u, hu, hb⟩ := pt'.get hi
            obtain ⟨x, z, rfl⟩ := upto_pair (List.mem_of_getElem? hu)
            have lt := (List.getElem?_eq_some_iff.mp hu).1
            have ed : (strL m).drop i = [x, z] :: (strL m).drop (i + 1) := by
              rw [List.drop_eq_getElem_cons lt, (List.getElem?_eq_some_iff.mp hu).2]
            obtain ⟨w0, _, hw⟩ := gd.2 _ (List.mem_of_getElem? hu)
            have hp' := ex _ _ (e1 _ _ hp)
            refine ⟨b, _, rfl, SqT.of hb, rfl, _, _, rfl, _, _, rfl, rfl, ?_⟩
            refine ⟨_, rfl, _, rfl, _, rfl, p, x, z, kvs, rfl, hp', ai, ⟨w0, hw⟩, fun H3 e3 => ?_⟩
            have ex3 := ex.trans e3
            refine ⟨_, rfl, _, _, rfl, rfl, _, rfl, ?_⟩
            refine ite2 (fun q => ?_) (fun q => ?_)
            · have neg : c3 kvs [x, z] < 0 := of_decide_eq_true q
              refine ⟨_, rfl, _, rfl, by show 3 ≤ sizeLine; decide, fun r nr => ?_⟩
              refine kQ r _ (e1.trans (ex3.trans (Ext.upd nr))) ?_
              rw [← eo, ed]
              show Told _ r (if c3 kvs [x, z] < 0 then Sum.inl [x, z] else _)
              rw [if_pos neg]
              exact upd_same
            · have nneg : ¬ c3 kvs [x, z] < 0 := fun y => q (decide_eq_true y)
              have stp : outL kvs ((strL m).drop i) acc = if 0 < c3 kvs [x, z] then outL kvs ((strL m).drop (i + 1)) (acc ++ [[x, z, c3 kvs [x, z]]]) else outL kvs ((strL m).drop (i + 1)) acc := by
                rw [ed]
                show (if c3 kvs [x, z] < 0 then Sum.inl [x, z] else _) = _
                rw [if_neg nneg]
                rfl
              refine ⟨_, rfl, _, _, rfl, rfl, _, rfl, ?_⟩
              have hD3 := e3 _ _ hD'
              have pb3 : PT2 H3 bs acc := PT2.mono (fun _ _ z => e3 _ _ z) pb
              have pt3 : PT2 H3 as (strL m) := PT2.mono (fun _ _ z => e3 _ _ z) pt'
              refine ite2 (fun q2 => ?_) (fun q2 => ?_)
              · have pos : 0 < c3 kvs [x, z] := of_decide_eq_true q2
                refine ⟨_, rfl, .inl ⟨rfl, _, SqL.of hD3⟩, _, rfl, _, rfl, _, rfl, by show 3 ≤ sizeLine; decide, fun t nt => ?_⟩
                have xt := Ext.upd (o := .tup [.int x, .int z, .int (cnt kvs x z)]) nt
                have hDt := xt _ _ hD3
                refine ⟨D, _, _, rfl, rfl, hDt, small1000 (by rw [List.length_map]; omega), ?_⟩
                have keepT : ∀ b xs, H3 b = some (.tup xs) → (upd (upd H3 t (.tup [.int x, .int z, .int (cnt kvs x z)])) D (.lst (bs.map V.ref ++ [.ref t]))) b = some (.tup xs) := fun b xs hb => by
                  rw [upd_ne (lst_ne hDt (xt _ _ hb))]
                  exact xt _ _ hb
                refine ⟨⟨_, _, _, rfl⟩, fun b o eo' => ?_, ?_, PT2.mono keepT pt3, bs ++ [t], acc ++ [[x, z, c3 kvs [x, z]]], ?_, ?_, by rw [List.length_append]; exact Nat.succ_le_succ lb, ?_⟩
                · rw [upd_ne (ne_of_none eo' nD)]
                  exact xt _ _ (ex3 _ _ eo')
                · rw [upd_ne nlD]
                  exact xt _ _ (e3 _ _ hl')
                · rw [upd_same, List.map_append]
                  rfl
                · refine PT2.snoc (PT2.mono keepT pb3) ?_
                  rw [upd_ne (ne_of_none hD3 nt).symm, upd_same]
                  rfl
                · rw [← eo, stp, if_pos pos]
              · have npos : ¬ 0 < c3 kvs [x, z] := fun y => q2 (decide_eq_true y)
                exact ⟨⟨_, _, _, rfl⟩, ex3, e3 _ _ hl', pt3, bs, acc, hD3, pb3, by omega, by rw [← eo, stp, if_neg npos]⟩
        · rintro σ' H' ⟨⟨v3, v4, v5, rfl⟩, ex, hl', pt', bs, acc, hD', pb, lb, eo⟩
          refine ⟨_, rfl, D, _, rfl, .inl ⟨SqL.of hD', fun q nq => ⟨by show 2 ≤ sizeLine; decide, fun r nr => ?_⟩⟩⟩
          have xq := Ext.upd (o := .tup (bs.map V.ref)) nq
          have xr := Ext.upd (o := .tup [.str "bars", .ref q]) nr
          refine kQ r _ (e1.trans (ex.trans (xq.trans xr))) ?_
          rw [← eo, List.length_map, ln, List.drop_length]
          exact ⟨q, bs, upd_same, xr _ _ upd_same, PT2.mono (fun _ _ z => xr _ _ (xq _ _ z)) pb⟩
end
end R36

set_option Elab.async false
set_option linter.all false
set_option maxRecDepth 100000
set_option maxHeartbeats 1000000
set_option pp.maxSteps 60
/-! The law's own stretches. -/
namespace R36
open PySem L2
abbrev sLStr : Stmt := top 17
abbrev sPairs : Stmt := top 18
def sqRow (m i : Nat) : List (List Int) := (List.range m).map fun j : Nat => [0 + (i : Int), 0 + (j : Int)]
def sq (m i : Nat) : List (List Int) := (List.range i).flatMap (sqRow m)
theorem sq_succ (m i : Nat) : sq m (i + 1) = sq m i ++ sqRow m i := by
  unfold sq
  rw [List.range_succ, List.flatMap_append, List.flatMap_singleton]
theorem sq_str : ∀ m : Nat, m ≤ 8 → (sq m m).filter (fun l => decide (l.getD 0 0 ≤ l.getD 1 0)) = strL m := by decide +kernel
theorem sq_len : ∀ m : Nat, m ≤ 8 → (sq m m).length ≤ 64 := by decide +kernel
theorem sq_pair {m : Nat} : ∀ {i : Nat} {l : List Int}, l ∈ sq m i → ∃ b e : Int, l = [b, e]
  | 0, l, h => by cases h
  | i + 1, l, h => by
    rw [sq_succ] at h
    rcases List.mem_append.mp h with h | h
    · exact sq_pair h
    · unfold sqRow at h
      obtain ⟨j, _, rfl⟩ := List.mem_map.mp h
      exact ⟨_, _, rfl⟩
def leL (l : List Int) : Bool := decide (l.getD 0 0 ≤ l.getD 1 0)
theorem sqRow_take {m i j : Nat} (h : j < m) : (sqRow m i).take (j + 1) = (sqRow m i).take j ++ [[0 + (i : Int), 0 + (j : Int)]] := by
  rw [List.take_succ]
  congr 1
  unfold sqRow
  rw [List.getElem?_map, List.getElem?_range h]
  rfl
theorem sqRow_len (m i : Nat) : (sqRow m i).length = m := by unfold sqRow; rw [List.length_map, List.length_range]
theorem sq_le (m : Nat) : ∀ i, (sq m i).length ≤ i * m
  | 0 => Nat.zero_le _
  | i + 1 => by
    rw [sq_succ, List.length_append, sqRow_len, Nat.succ_mul]
    have := sq_le m i
    omega
def spPairs : Sp := fun vs H Q _ => ∃ m : Nat, vs = [.int (m : Int)] ∧ m ≤ 8 ∧ ∀ (l : Addr) (as : List Addr) (H' : Hp), Ext H H' → H' l = some (.lst (as.map V.ref)) → PT2 H' as (sq m m) → Q (.ref l) H'
section
variable {P : Program} {w : World} {K : PySem.W.Frag} {mg : Str → Option Value} {base : Heap}
abbrev pairsN : List Str := ["many", "found", "begin", "end"]
theorem scPairs : FnScope pairsN ["many"] (defScope sPairs) := ⟨rfl, rfl, rfl, by decide +kernel, rfl, by decide +kernel, by decide +kernel⟩
theorem ok_pairs {f : Addr} {fd : FuncData} (F : L2.Fun K "_law_pairs" "_law_pairs" sPairs f fd) (T : Gb mg) : FnOk P w K mg base CX0 1 f fd ["many"] spPairs := by
  refine F.ok scPairs (fun vs H Q E h => ?_) (fun cdv A outer s H vs Q E hr h => ?_)
  · obtain ⟨m, rfl, _⟩ := h
    rfl
  · obtain ⟨m, rfl, m8, k⟩ := h
    refine ⟨_, pss_cons (ps_set (i := 1) scPairs.nd rfl (Or.inl rfl) (pe_lst pa_nil))
      (pss_cons (ps_for PassesOwn.never rfl (pi_range1 (by rfl) T.rng (pa_cons (pv 0) pa_nil)) (pg_name (i := 2) scPairs.nd rfl (by first | exact Or.inl rfl | exact Or.inr rfl))
        (pss_one (ps_expr (pe_bm PySem.F.plainAttrs_list PySem.F.slot_list_extend PySem.F.type_list_extend mt_extend (pv 1) (pa_cons (pe_lc (own := [("end", 3)]) (g := gName 3) (tt := tYes) rfl scPairs.nd (pi_range1 (by rfl) T.rng (pa_cons (pv 0) pa_nil)) (blkOk_by (N := pairsN) (sc := defScope sPairs) (by decide +kernel))
            (fun _ _ _ _ _ => pg_name (i := 3) scPairs.nd rfl (Or.inl rfl)) (fun _ _ _ _ _ => pts_nil) (fun _ _ _ _ _ => pe_tup (pa_cons (pv 2) (pa_cons (pv 3) pa_nil)))) pa_nil)))))
      (pss_one (ps_ret (pv 1)))), ?_⟩
    refine ⟨Nat.zero_le _, fun D nD => ?_⟩
    refine ⟨_, rfl, (m : Int), rfl, by omega, by omega, for_range (lo := 0) (n := (m : Int).toNat) (fun i σ' H' => (∃ v2 : Option V, σ' = [some (.int (m : Int)), some (.ref D), v2, Option.none]) ∧ Ext H H' ∧ ∃ as : List Addr, H' D = some (.lst (as.map V.ref)) ∧ PT2 H' as (sq m i)) ⟨⟨_, rfl⟩, Ext.upd nD, [], upd_same, .nil⟩ ?_ ?_⟩
    · rintro i σ' H1 hi ⟨⟨v2, rfl⟩, e1, as, hD, pt⟩
      have him : i < m := by omega
      refine ⟨_, rfl, .inl ⟨rfl, _, SqL.of hD⟩, _, rfl, (m : Int), rfl, by omega, by omega, fun D2 nD2 => ?_⟩
      refine lc_range (lo := 0) (n := (m : Int).toNat) (fun j H2 => Ext H1 H2 ∧ ∃ bs : List Addr, H2 D2 = some (.lst (bs.map V.ref)) ∧ PT2 H2 bs ((sqRow m i).take j)) ⟨Ext.upd nD2, [], upd_same, .nil⟩ ?_ ?_
      · rintro j H2 hj ⟨e2, bs, hD2, pb⟩
        have lb := PT2.len pb
        rw [List.length_take, sqRow_len] at lb
        refine ⟨rfl, tyes_in ⟨_, rfl, _, rfl, by show 2 ≤ sizeLine; decide, fun t nt => ⟨_, Ext.upd nt _ _ hD2, small1000 (by rw [List.length_map]; omega), fun b o eo => ?_, bs ++ [t], ?_, ?_⟩⟩⟩
        · rw [upd_ne (ne_of_none eo nD2)]
          exact Ext.upd nt _ _ (e2 _ _ eo)
        · rw [upd_same, List.map_append]
          rfl
        · rw [sqRow_take (by omega)]
          have hD4 := Ext.upd (o := .tup [V.int (0 + (i : Int)), V.int (0 + (j : Int))]) nt _ _ hD2
          refine PT2.snoc (PT2.mono (fun b xs z => ?_) pb) ?_
          · rw [upd_ne (lst_ne hD4 (Ext.upd nt _ _ z))]
            exact Ext.upd nt _ _ z
          · rw [upd_ne (ne_of_none hD2 nt).symm, upd_same]
            rfl
      · rintro H2 ⟨e2, bs, hD2, pb⟩
        rw [List.take_of_length_le (by rw [sqRow_len]; omega)] at pb
        have hDD := e2 _ _ hD
        have l1 := PT2.len pt
        have l2 := PT2.len pb
        have l3 := sq_le m i
        have l4 : i * m ≤ 8 * 8 := Nat.mul_le_mul (by omega) m8
        rw [sqRow_len] at l2
        refine ⟨D, D2, _, _, rfl, rfl, hDD, hD2, Nat.le_of_lt (small1000 (by rw [List.length_map, List.length_map]; omega)), ?_⟩
        refine ⟨⟨_, rfl⟩, fun b o eo => ?_, as ++ bs, ?_, ?_⟩
        · rw [upd_ne (ne_of_none eo nD)]
          exact e2 _ _ (e1 _ _ eo)
        · rw [upd_same, List.map_append]
        · rw [sq_succ]
          have kp : ∀ b xs, H2 b = some (.tup xs) → (upd H2 D (.lst (as.map V.ref ++ bs.map V.ref))) b = some (.tup xs) := fun b xs z => by rw [upd_ne (lst_ne hDD z)]; exact z
          have app : ∀ {a b : List Addr} {p q : List (List Int)} {S : Hp}, PT2 S a p → PT2 S b q → PT2 S (a ++ b) (p ++ q) := by
            intro a b p q S h g
            induction h with
            | nil => exact g
            | cons x _ ih => exact .cons x ih
          exact app (PT2.mono (fun b xs z => kp b xs (e2 _ _ z)) pt) (PT2.mono kp pb)
    · rintro σ' H' ⟨⟨v2, rfl⟩, e1, as, hD, pt⟩
      have em : (m : Int).toNat = m := by omega
      rw [em] at pt
      exact ⟨_, rfl, k D as H' e1 hD pt⟩
abbrev lstrN : List Str := ["many", "begin", "end"]
theorem scLStr : FnScope lstrN ["many"] (defScope sLStr) := ⟨rfl, rfl, rfl, by decide +kernel, rfl, by decide +kernel, by decide +kernel⟩
theorem ok_lstr {f : Addr} {fd : FuncData} (F : L2.Fun K "_law_stretches" "_law_stretches" sLStr f fd) (cP : Cal P w K mg base 1 "_law_pairs" spPairs []) : FnOk P w K mg base CX0 2 f fd ["many"] spStr := by
  refine F.ok scLStr (fun vs H Q E h => ?_) (fun cdv A outer s H vs Q E hr h => ?_)
  · obtain ⟨m, rfl, _⟩ := h
    rfl
  · obtain ⟨m, rfl, m8, k⟩ := h
    refine ⟨_, pss_one (ps_ret (pe_lc (own := [("begin", 1), ("end", 2)]) (g := gTup K 2 (gCons (gName 1) (gCons (gName 2) gNil))) rfl scLStr.nd (pi_list (C8.pe_c cP hr (by decide) (by rfl) (pa_cons (pv 0) pa_nil))) (blkOk_by (N := lstrN) (sc := defScope sLStr) (by decide +kernel))
        (fun _ _ _ _ _ => pg_tup rfl (pgs_cons (pg_name (i := 1) scLStr.nd rfl (Or.inl rfl)) (pgs_cons (pg_name (i := 2) scLStr.nd rfl (Or.inl rfl)) pgs_nil))) (fun _ _ _ _ _ => pts_one (pt_cmpR op_le (pv 1) (pv 2) (nomark _))) (fun _ _ _ _ _ => pe_tup (pa_cons (pv 1) (pa_cons (pv 2) pa_nil))))), ?_⟩
    refine ⟨_, rfl, m, rfl, m8, fun l as H1 e1 hl pt => ⟨l, rfl, ⟨_, SqL.of hl⟩, fun D nD => ?_⟩⟩
    have ln := PT2.len pt
    have l64 := sq_len m m8
    refine lc_list (K := K) (a := l) (xs := as.map V.ref) (fun j H2 => Ext H1 H2 ∧ ∃ bs : List Addr, H2 D = some (.lst (bs.map V.ref)) ∧ PT2 H2 bs (((sq m m).take j).filter leL)) ⟨Ext.upd nD, [], upd_same, .nil⟩ (fun j H2 _ z => SqL.of (z.1 _ _ hl)) ?_ ?_
    · rintro j y H2 hy ⟨e2, bs, hD, pb⟩
      rw [List.getElem?_map] at hy
      cases hj : as[j]? with
      | none => rw [hj] at hy; cases hy
      | some b =>
        rw [hj] at hy
        cases hy
        obtain ⟨u, hu, hb⟩ := pt.get hj
        obtain ⟨x, z, rfl⟩ := sq_pair (List.mem_of_getElem? hu)
        have lb := PT2.len pb
        have lf := List.length_filter_le leL ((sq m m).take j)
        rw [List.length_take] at lf
        have tk : (sq m m).take (j + 1) = (sq m m).take j ++ [[x, z]] := by
          rw [List.take_succ, hu]
          rfl
        refine ⟨b, _, rfl, SqT.of (e2 _ _ hb), rfl, _, _, rfl, _, _, rfl, rfl, rfl, ?_⟩
        refine ⟨_, rfl, _, rfl, _, _, rfl, rfl, _, rfl, ?_⟩
        refine ite2 (fun q => ?_) (fun q => ?_)
        · have le : leL [x, z] = true := q
          refine ⟨_, rfl, _, rfl, by show 2 ≤ sizeLine; decide, fun t nt => ⟨_, Ext.upd nt _ _ hD, small1000 (by rw [List.length_map]; omega), fun b o eo => ?_, bs ++ [t], ?_, ?_⟩⟩
          · rw [upd_ne (ne_of_none eo nD)]
            exact Ext.upd nt _ _ (e2 _ _ eo)
          · rw [upd_same, List.map_append]
            rfl
          · rw [tk, List.filter_append]
            have ef : [[x, z]].filter leL = [[x, z]] := by rw [List.filter_cons, le]; rfl
            rw [ef]
            have hD4 := Ext.upd (o := .tup [V.int x, V.int z]) nt _ _ hD
            refine PT2.snoc (PT2.mono (fun b xs z => ?_) pb) ?_
            · rw [upd_ne (lst_ne hD4 (Ext.upd nt _ _ z))]
              exact Ext.upd nt _ _ z
            · rw [upd_ne (ne_of_none hD nt).symm, upd_same]
              rfl
        · have le : leL [x, z] = false := Bool.eq_false_iff.mpr q
          refine ⟨e2, bs, hD, ?_⟩
          rw [tk, List.filter_append]
          have ef : [[x, z]].filter leL = [] := by rw [List.filter_cons, le]; rfl
          rw [ef, List.append_nil]
          exact pb
    · rintro H2 ⟨e2, bs, hD, pb⟩
      rw [List.length_map, ln, List.take_of_length_le (Nat.le_refl _)] at pb
      have := sq_str m m8
      have e3 : (sq m m).filter leL = strL m := this
      rw [e3] at pb
      exact k D bs H2 (e1.trans e2) hD pb
end
end R36

set_option Elab.async false
set_option linter.all false
set_option maxRecDepth 100000
set_option maxHeartbeats 1000000
set_option pp.maxSteps 60
/-! The law's own count. -/
namespace R36
open PySem L2
abbrev sDue : Stmt := top 22
def spDue : Sp := fun vs H Q _ => ∃ (m : Nat) (p : Addr) (kvs : List (List Key × V)), vs = [.int (m : Int), .ref p] ∧ 1 ≤ m ∧ m ≤ 8 ∧ H p = some (.dT kvs) ∧ AllI kvs ∧ GoodR kvs m ∧ ∀ (r : Addr) (H' : Hp), Ext H H' → Told H' r (outL kvs (strL m) []) → Q (.ref r) H'
section
variable {P : Program} {w : World} {K : PySem.W.Frag} {mg : Str → Option Value} {base : Heap}
abbrev dueN : List Str := ["many", "told", "found", "begin", "end", "count"]
theorem scDue : FnScope dueN ["many", "told"] (defScope sDue) := ⟨rfl, rfl, rfl, by decide +kernel, rfl, by decide +kernel, by decide +kernel⟩
theorem ok_due {f : Addr} {fd : FuncData} (F : L2.Fun K "_law_due" "_law_due" sDue f fd) (T : Gb mg) (cS : Cal P w K mg base 2 "_law_stretches" spStr []) : FnOk P w K mg base CX0 3 f fd ["many", "told"] spDue := by
  refine F.ok scDue (fun vs H Q E h => ?_) (fun cdv A outer s H vs Q E hr h => ?_)
  · obtain ⟨m, p, kvs, rfl, _⟩ := h
    rfl
  · obtain ⟨m, p, kvs, rfl, m1, m8, hp, ai, gd, kQ⟩ := h
    have hu1 := Nat.lt_of_le_of_lt (Nat.add_le_add_left (show 1 ≤ 64 by decide) _) hr.units
    refine ⟨_, pss_cons (ps_set (i := 2) scDue.nd rfl (Or.inl rfl) (pe_lst pa_nil))
      (pss_cons (ps_for PassesOwn.never rfl (pi_list (C8.pe_c cS hr (by decide) (by rfl) (pa_cons (pv 0) pa_nil))) (pg_tup rfl (pgs_cons (pg_name (i := 3) scDue.nd rfl (Or.inl rfl)) (pgs_cons (pg_name (i := 4) scDue.nd rfl (Or.inl rfl)) pgs_nil)))
        (pss_cons (ps_set (i := 5) scDue.nd rfl (Or.inl rfl) (pe_op op_sub (pe_dget hu1 (pv 1) (pe_tup (pa_cons (pv 3) (pa_cons (pv 4) pa_nil))) (fun _ _ => rfl)) (pe_dget2 hu1 (pv 1) (pe_tup (pa_cons (pe_op op_sub (pv 3) pe_int) (pa_cons (pv 4) pa_nil))) pe_int ⟨rfl, rfl, rfl, rfl⟩)))
        (pss_cons (ps_set (i := 5) scDue.nd rfl (Or.inl rfl) (pe_op op_add (pe_op op_sub (pv 5) (pe_dget2 hu1 (pv 1) (pe_tup (pa_cons (pv 3) (pa_cons (pe_op op_add (pv 4) pe_int) pa_nil))) pe_int ⟨rfl, rfl, rfl, rfl⟩)) (pe_dget2 hu1 (pv 1) (pe_tup (pa_cons (pe_op op_sub (pv 3) pe_int) (pa_cons (pe_op op_add (pv 4) pe_int) pa_nil))) pe_int ⟨rfl, rfl, rfl, rfl⟩)))
        (pss_cons (ps_if (pt_cmpR op_lt (pv 5) pe_int (nomark _)) (pss_one (ps_ret (pe_tup (pa_cons pe_str (pa_cons (pv 3) (pa_cons (pv 4) pa_nil)))))) pss_nil)
        (pss_one (ps_if (pt_cmpR op_gt (pv 5) pe_int (nomark _)) (pss_one (ps_expr (pe_bm PySem.F.plainAttrs_list PySem.F.slot_list_append PySem.F.type_list_append mt_append (pv 2) (pa_cons (pe_tup (pa_cons (pv 3) (pa_cons (pv 4) (pa_cons (pv 5) pa_nil)))) pa_nil)))) pss_nil))))))
      (pss_one (ps_ret (pe_tup (pa_cons pe_str (pa_cons (pe_callTy call_tuple_of (by rfl) T.tup (by decide +kernel) (pa_cons (pv 2) pa_nil)) pa_nil)))))), ?_⟩
    refine ⟨Nat.zero_le _, fun D nD => ?_⟩
    have xD := Ext.upd (o := .lst []) nD
    refine ⟨_, rfl, m, rfl, m8, fun l as H2 e2 hl pt => ?_⟩
    have ln := PT2.len pt
    have sp := str_pos m1
    have s64 := str_len m8
    have hD2 : H2 D = some (.lst []) := e2 _ _ upd_same
    have nlD : l ≠ D := fun e => by
      rw [e, hD2] at hl
      injection hl with hl
      injection hl with hl
      have := congrArg List.length hl
      rw [List.length_map, List.length_nil] at this
      omega
    have e12 : Ext H H2 := xD.trans e2
    refine ⟨l, rfl, ⟨_, SqL.of hl⟩, for_list (K := K) (a := l) (xs := as.map V.ref) (fun i σ' H' => (∃ v3 v4 v5 : Option V, σ' = [some (.int (m : Int)), some (.ref p), some (.ref D), v3, v4, v5]) ∧ Ext H H' ∧ H' l = some (.lst (as.map V.ref)) ∧ PT2 H' as (strL m) ∧
      ∃ bs acc, H' D = some (.lst (bs.map V.ref)) ∧ PT2 H' bs acc ∧ bs.length ≤ i ∧ outL kvs ((strL m).drop i) acc = outL kvs (strL m) []) ⟨⟨_, _, _, rfl⟩, e12, hl, pt, [], [], hD2, .nil, Nat.le_refl _, rfl⟩ (fun i σ' H' _ z => SqL.of z.2.2.1) ?_ ?_⟩
    · rintro i y σ' H' hy ⟨⟨v3, v4, v5, rfl⟩, ex, hl', pt', bs, acc, hD', pb, lb, eo⟩
      rw [List.getElem?_map] at hy
      cases hi : as[i]? with
      | none => rw [hi] at hy; cases hy
      | some b =>
        rw [hi] at hy
        cases hy
        obtain ⟨u, hu, hb⟩ := pt'.get hi
        obtain ⟨x, z, rfl⟩ := upto_pair (List.mem_of_getElem? hu)
        have lt := (List.getElem?_eq_some_iff.mp hu).1
        have ed : (strL m).drop i = [x, z] :: (strL m).drop (i + 1) := by
          rw [List.drop_eq_getElem_cons lt, (List.getElem?_eq_some_iff.mp hu).2]
        obtain ⟨w0, _, hw⟩ := gd.2 _ (List.mem_of_getElem? hu)
        have hp' := ex _ _ hp
        refine ⟨b, _, rfl, SqT.of hb, rfl, _, _, rfl, _, _, rfl, rfl, ?_⟩
        have isd : ∀ {H3 : Hp}, Ext H' H3 → IsD H3 p := fun e => .inr ⟨kvs, .inl (e _ _ hp')⟩
        refine ⟨_, rfl, _, rfl, _, rfl, by show 2 ≤ sizeLine; decide, fun t1 n1 => ?_⟩
        have y1 := Ext.upd (o := .tup [.int x, .int z]) n1
        have dg := DGet.t (k := [.inl x, .inl z]) (y1 _ _ hp') (upd_same (H := H') (a := t1) (o := .tup [.int x, .int z]))
        have hw' : valV kvs [.inl x, .inl z] = some (.int w0) := hw
        rw [hw'] at dg
        refine ⟨p, _, rfl, dg, _, rfl, p, rfl, isd y1, _, rfl, _, _, rfl, rfl, _, rfl, by show 2 ≤ sizeLine; decide, fun t2 n2 => ?_⟩
        have y2 := Ext.upd (o := .tup [.int (x - 1), .int z]) n2
        refine ⟨_, DGet.t (k := [.inl (x - 1), .inl z]) (y2 _ _ (y1 _ _ hp')) upd_same, ?_⟩
        rw [getD_val ai]
        refine ⟨_, _, rfl, rfl, ?_⟩
        refine ⟨_, rfl, _, rfl, p, rfl, isd (y1.trans y2), _, rfl, _, rfl, _, _, rfl, rfl, by show 2 ≤ sizeLine; decide, fun t3 n3 => ?_⟩
        have y3 := Ext.upd (o := .tup [.int x, .int (z + 1)]) n3
        refine ⟨_, DGet.t (k := [.inl x, .inl (z + 1)]) (y3 _ _ (y2 _ _ (y1 _ _ hp'))) upd_same, ?_⟩
        rw [getD_val ai]
        refine ⟨_, _, rfl, rfl, ?_⟩
        refine ⟨_, rfl, p, rfl, isd (y1.trans (y2.trans y3)), _, rfl, _, _, rfl, rfl, _, rfl, _, _, rfl, rfl, by show 2 ≤ sizeLine; decide, fun t4 n4 => ?_⟩
        have y4 := Ext.upd (o := .tup [.int (x - 1), .int (z + 1)]) n4
        refine ⟨_, DGet.t (k := [.inl (x - 1), .inl (z + 1)]) (y4 _ _ (y3 _ _ (y2 _ _ (y1 _ _ hp')))) upd_same, ?_⟩
        rw [getD_val ai]
        refine ⟨_, _, rfl, rfl, ?_⟩
        have ec : w0 - val kvs (x - 1) z - val kvs x (z + 1) + val kvs (x - 1) (z + 1) = cnt kvs x z := by
          rw [val_some hw']
          unfold cnt
          omega
        show gName 5 (V.int (w0 - val kvs (x - 1) z - val kvs x (z + 1) + val kvs (x - 1) (z + 1))) _ _ _
        rw [ec]
        have e3 : Ext H' _ := y1.trans (y2.trans (y3.trans y4))
        generalize upd (upd (upd (upd H' t1 (.tup [.int x, .int z])) t2 (.tup [.int (x - 1), .int z])) t3 (.tup [.int x, .int (z + 1)])) t4 (.tup [.int (x - 1), .int (z + 1)]) = H3 at *
        have ex3 := ex.trans e3
        refine ⟨_, rfl, _, _, rfl, rfl, _, rfl, ?_⟩
        refine ite2 (fun q => ?_) (fun q => ?_)
        · have neg : c3 kvs [x, z] < 0 := of_decide_eq_true q
          refine ⟨_, rfl, _, rfl, by show 3 ≤ sizeLine; decide, fun r nr => ?_⟩
          refine kQ r _ (ex3.trans (Ext.upd nr)) ?_
          rw [← eo, ed]
          show Told _ r (if c3 kvs [x, z] < 0 then Sum.inl [x, z] else _)
          rw [if_pos neg]
          exact upd_same
        · have nneg : ¬ c3 kvs [x, z] < 0 := fun y => q (decide_eq_true y)
          have stp : outL kvs ((strL m).drop i) acc = if 0 < c3 kvs [x, z] then outL kvs ((strL m).drop (i + 1)) (acc ++ [[x, z, c3 kvs [x, z]]]) else outL kvs ((strL m).drop (i + 1)) acc := by
            rw [ed]
            show (if c3 kvs [x, z] < 0 then Sum.inl [x, z] else _) = _
            rw [if_neg nneg]
            rfl
          refine ⟨_, rfl, _, _, rfl, rfl, _, rfl, ?_⟩
          have hD3 := e3 _ _ hD'
          have pb3 : PT2 H3 bs acc := PT2.mono (fun _ _ z => e3 _ _ z) pb
          have pt3 : PT2 H3 as (strL m) := PT2.mono (fun _ _ z => e3 _ _ z) pt'
          refine ite2 (fun q2 => ?_) (fun q2 => ?_)
          · have pos : 0 < c3 kvs [x, z] := of_decide_eq_true q2
            refine ⟨_, rfl, .inl ⟨rfl, _, SqL.of hD3⟩, _, rfl, _, rfl, _, rfl, by show 3 ≤ sizeLine; decide, fun t nt => ?_⟩
            have xt := Ext.upd (o := .tup [.int x, .int z, .int (cnt kvs x z)]) nt
            have hDt := xt _ _ hD3
            refine ⟨D, _, _, rfl, rfl, hDt, small1000 (by rw [List.length_map]; omega), ?_⟩
            have keepT : ∀ b xs, H3 b = some (.tup xs) → (upd (upd H3 t (.tup [.int x, .int z, .int (cnt kvs x z)])) D (.lst (bs.map V.ref ++ [.ref t]))) b = some (.tup xs) := fun b xs hb => by
              rw [upd_ne (lst_ne hDt (xt _ _ hb))]
              exact xt _ _ hb
            refine ⟨⟨_, _, _, rfl⟩, fun b o eo' => ?_, ?_, PT2.mono keepT pt3, bs ++ [t], acc ++ [[x, z, c3 kvs [x, z]]], ?_, ?_, by rw [List.length_append]; exact Nat.succ_le_succ lb, ?_⟩
            · rw [upd_ne (ne_of_none eo' nD)]
              exact xt _ _ (ex3 _ _ eo')
            · rw [upd_ne nlD]
              exact xt _ _ (e3 _ _ hl')
            · rw [upd_same, List.map_append]
              rfl
            · refine PT2.snoc (PT2.mono keepT pb3) ?_
              rw [upd_ne (ne_of_none hD3 nt).symm, upd_same]
              rfl
            · rw [← eo, stp, if_pos pos]
          · have npos : ¬ 0 < c3 kvs [x, z] := fun y => q2 (decide_eq_true y)
            exact ⟨⟨_, _, _, rfl⟩, ex3, e3 _ _ hl', pt3, bs, acc, hD3, pb3, by omega, by rw [← eo, stp, if_neg npos]⟩
    · rintro σ' H' ⟨⟨v3, v4, v5, rfl⟩, ex, hl', pt', bs, acc, hD', pb, lb, eo⟩
      refine ⟨_, rfl, D, _, rfl, .inl ⟨SqL.of hD', fun q nq => ⟨by show 2 ≤ sizeLine; decide, fun r nr => ?_⟩⟩⟩
      have xq := Ext.upd (o := .tup (bs.map V.ref)) nq
      have xr := Ext.upd (o := .tup [.str "bars", .ref q]) nr
      refine kQ r _ (ex.trans (xq.trans xr)) ?_
      rw [← eo, List.length_map, ln, List.drop_length]
      exact ⟨q, bs, upd_same, xr _ _ upd_same, PT2.mono (fun _ _ z => xr _ _ (xq _ _ z)) pb⟩
end
end R36

set_option Elab.async false
set_option linter.all false
set_option maxRecDepth 100000
set_option maxHeartbeats 4000000
set_option pp.maxSteps 60
/-! A thing of another kind. -/
namespace R36
open PySem L2
abbrev sOdd : Stmt := top 20
/-- no dict at all, or the one without keys -/
def NoDW (K : PySem.W.Frag) (S : Hp) (x : V) : Prop := (∃ t, TyX K S x t ∧ PySem.W.kitOne K t (.type "dict") = some false) ∨ ∃ p, x = .ref p ∧ S p = some (.dK [])
section
variable {K : PySem.W.Frag} {S : Hp}
theorem NoDW.non : NoDW K S .non := .inl ⟨_, .base .non, kit_ty (by decide +kernel)⟩
theorem NoDW.bl (b : Bool) : NoDW K S (.bl b) := .inl ⟨_, .base (.bl b), kit_ty (show kitB "bool" "dict" = some false by decide +kernel)⟩
theorem NoDW.int (i : Int) : NoDW K S (.int i) := .inl ⟨_, .base (.int i), kit_ty (show kitB "int" "dict" = some false by decide +kernel)⟩
theorem NoDW.str (z : Str) : NoDW K S (.str z) := .inl ⟨_, .base (.str z), kit_ty (show kitB "str" "dict" = some false by decide +kernel)⟩
theorem NoDW.lst {p : Addr} {xs : List V} (h : S p = some (.lst xs)) : NoDW K S (.ref p) := .inl ⟨_, .base (.lst h), kit_ty (show kitB "list" "dict" = some false by decide +kernel)⟩
theorem NoDW.tup {p : Addr} {xs : List V} (h : S p = some (.tup xs)) : NoDW K S (.ref p) := .inl ⟨_, .base (.tup h), kit_ty (show kitB "tuple" "dict" = some false by decide +kernel)⟩
theorem NoDW.dct {p : Addr} (h : S p = some (.dK [])) : NoDW K S (.ref p) := .inr ⟨p, rfl, h⟩
end
def spOddN (K : PySem.W.Frag) : Sp := fun vs H Q _ => ∃ a : Addr, vs = [.ref a] ∧ PotAt H a ∧ ∀ (x : V) (H' : Hp), Go a H H' → NoDW K (Off a H') x → Q x H'
section
variable {P : Program} {w : World} {K : PySem.W.Frag} {mg : Str → Option Value} {base : Heap}
theorem scOdd : FnScope ["purse"] ["purse"] (defScope sOdd) := ⟨rfl, rfl, rfl, by decide +kernel, rfl, by decide +kernel, by decide +kernel⟩
theorem ok_oddN {f : Addr} {fd : FuncData} (F : L2.Fun K "_law_odd" "_law_odd" sOdd f fd) (T : Gb mg) (cA : Cal P w K mg base 2 "_law_one" spAny []) (cE : Cal P w K mg base 1 "_law_deep" spDeep []) : FnOk P w K mg base CX0 3 f fd ["purse"] (spOddN K) := by
  refine F.ok scOdd (fun vs H Q E h => ?_) (fun cdv A outer s H vs Q E hr h => ?_)
  · obtain ⟨a, rfl, _⟩ := h
    rfl
  · obtain ⟨a, rfl, pot, k⟩ := h
    refine ⟨_, pss_one (ps_ret (C8.pe_c cA hr (by decide) (by rfl) (pa_cons (pv 0) (pa_cons (pe_lst (pa_cons pe_non (pa_cons pe_bl (pa_cons pe_bl (pa_cons pe_str (pa_cons pe_str (pa_cons (pe_lst pa_nil) (pa_cons pe_dnewK
      (pa_cons (pe_tup (pa_cons pe_non pa_nil)) (pa_cons (pe_tup (pa_cons pe_str pa_nil)) (pa_cons (pe_tup (pa_cons pe_bl pa_nil)) (pa_cons (C8.pe_c cE hr (by decide) (by rfl) (pa_cons pe_int pa_nil)) (pa_cons (pe_op op_pow pe_int pe_int) pa_nil))))))))))))) pa_nil)))), ?_⟩
    refine ⟨_, rfl, Nat.zero_le _, fun p1 n1 p2 n2 => ⟨by show 1 ≤ sizeLine; decide, fun p3 n3 => ⟨by show 1 ≤ sizeLine; decide, fun p4 n4 => ⟨by show 1 ≤ sizeLine; decide, fun p5 n5 => ⟨rfl, fun p6 p7 xs H1 e1 h6 h7 => ?_⟩⟩⟩⟩⟩
    have x2 := Ext.upd (o := .lst []) n1
    have x3 := Ext.upd (o := .dK []) n2
    have x4 := Ext.upd (o := .tup [.non]) n3
    have x5 := Ext.upd (o := .tup [.str "0"]) n4
    have x6 := Ext.upd (o := .tup [.bl true]) n5
    have g1 : H1 p1 = some (.lst []) := e1 _ _ (x6 _ _ (x5 _ _ (x4 _ _ (x3 _ _ upd_same))))
    have g2 : H1 p2 = some (.dK []) := e1 _ _ (x6 _ _ (x5 _ _ (x4 _ _ upd_same)))
    have g3 : H1 p3 = some (.tup [.non]) := e1 _ _ (x6 _ _ (x5 _ _ upd_same))
    have g4 : H1 p4 = some (.tup [.str "0"]) := e1 _ _ (x6 _ _ upd_same)
    have g5 : H1 p5 = some (.tup [.bl true]) := e1 _ _ upd_same
    have ex : Ext H H1 := x2.trans (x3.trans (x4.trans (x5.trans (x6.trans e1))))
    have po := (Go.of_ext pot ex)
    refine ⟨_, _, rfl, rfl, ⟨by decide, by decide, by decide⟩, by show 12 ≤ sizeLine; decide, fun l nl => ?_⟩
    refine ⟨a, l, _, rfl, po.1.upd nl, (po.1.ne nl).symm, upd_same, by simp, by show 12 ≤ 1000; decide, fun x H' hx go9 => ?_⟩
    have goH : Go a H H' := (po.trans (Go.new po.1 nl)).trans go9
    have fin : ∀ (q : Addr) (u : HO), q ≠ a → H1 q = some u → (∀ ps, u ≠ .tbl ps) → (Off a H') q = some u := fun q u nq h nt => off_at nq (go9.2 q u nq (Ext.upd nl q u h)) nt
    have q1 := fin p1 _ (pot.ne n1).symm g1 fun _ z => nomatch z
    have q2 := fin p2 _ (pot_no po.1 g2 fun _ z => nomatch z) g2 fun _ z => nomatch z
    have q3 := fin p3 _ (pot_no po.1 g3 fun _ z => nomatch z) g3 fun _ z => nomatch z
    have q4 := fin p4 _ (pot_no po.1 g4 fun _ z => nomatch z) g4 fun _ z => nomatch z
    have q5 := fin p5 _ (pot_no po.1 g5 fun _ z => nomatch z) g5 fun _ z => nomatch z
    have q6 := fin p6 _ (pot_no po.1 h6 fun _ z => nomatch z) h6 fun _ z => nomatch z
    refine k x H' goH ?_
    simp only [List.mem_cons, List.not_mem_nil, or_false] at hx
    rcases hx with rfl | rfl | rfl | rfl | rfl | rfl | rfl | rfl | rfl | rfl | rfl | rfl
    · exact NoDW.non
    · exact NoDW.bl _
    · exact NoDW.bl _
    · exact NoDW.str _
    · exact NoDW.str _
    · exact NoDW.lst q1
    · exact NoDW.dct q2
    · exact NoDW.tup q3
    · exact NoDW.tup q4
    · exact NoDW.tup q5
    · exact NoDW.tup q6
    · exact NoDW.int _
end
end R36

set_option Elab.async false
set_option linter.all false
set_option maxRecDepth 100000
set_option maxHeartbeats 4000000
set_option pp.maxSteps 60
/-! What a lambda's call tells: _law_word. -/
namespace R36
open PySem L2 LamX
abbrev sWord : Stmt := top 21
theorem kit_same {K : PySem.W.Frag} {C : Addr} : PySem.W.kitOne K (.ref C) (.ref C) = some true := by
  unfold PySem.W.kitOne
  rw [if_pos (beq_self_eq_true _)]
section
open PySem.Spec PyProof.Rows
/-- isinstance of a caught exception that has no dict -/
def rIsX0 (K : PySem.W.Frag) (C a : Addr) (cls : Value) (d : Option Addr) : List V → Hp → VK → Prop := fun xs H Q => ∃ (c : V) (cv : Value) (b : Bool), xs = [.ref a, c] ∧ ClsV c cv ∧ cls = .ref C ∧ d = none ∧ PySem.W.kitOne K (.ref C) cv = some b ∧ Q (.bl b) H
variable {X : Cx} {a C : Addr} {oe : Obj} {cls : Value} {d : Option Addr} {pn : List (Addr × Obj)}
theorem call_isX0 (T : ExIs X.K C) (hz : Zc cls d oe) (hf : ∃ vs, oe.data = .fields vs) : CallR (X.suite a ((a, oe) :: pn)) (.builtin "isinstance") (rIsX0 X.K C a cls d) := by
  rintro pins s σ H xs us Q I r ⟨c, cv, b, rfl, hc, rfl, rfl, e, q⟩
  obtain ⟨u1, u2, rfl, r1, r2⟩ := vals2 r
  obtain rfl : u1 = Value.ref a := r1
  obtain rfl := hc.eq r2
  obtain ⟨there, _⟩ := I.pin (a, oe) (List.mem_append_left _ List.mem_cons_self)
  obtain ⟨vs, dt⟩ := hf
  have J : PySem.W.InstAt s.heap a oe C none := ⟨there, hz.1, by unfold PySem.W.notCls; rw [dt] <;> rfl, by rw [hz.2]; trivial⟩
  exact PySem.W.kia_one (PySem.W.kitx_exc T.cls T.ga T.gt T.sb T.ha T.hn T.ht T.hm) I.kIn J e (fun z => nomatch z) fun tk => ⟨.bl b, H, I.tok tk, rfl, q⟩
/-- list.count of flat items -/
def rCntF (K : PySem.W.Frag) : V → List V → Hp → VK → Prop := fun x xs H Q => ∃ (l : Addr) (ys : List V) (y : V), x = .ref l ∧ xs = [y] ∧ SqL K H l ys ∧ flatV y = true ∧ ys.all flatV = true ∧ Q (.int ((ys.countP fun z => eqV z y) : Nat)) H
theorem count_eqU {x : V} : ∀ {xs : List V} {us : List Value}, Vals xs us → xs.all flatV = true → us.countP (eqU x) = xs.countP fun y => eqV y x
  | _, _, .nil, _ => rfl
  | y :: xs, u :: us, .cons r t, f => by
    rw [List.all_cons, Bool.and_eq_true] at f
    rw [List.countP_cons, List.countP_cons, count_eqU t f.2, eqU_of r f.1]
theorem mt_countF : MtR X "list.count" (rCntF X.K) := by
  rintro pins s σ H x xs v us Q I rx rxs ⟨l, ys, y, rfl, rfl, hs, fy, fys, q⟩
  obtain rfl : v = Value.ref l := rx
  obtain ⟨u, rfl, ru⟩ := rxs.one
  obtain ⟨its, rv, ⟨⟨cls', dd, data, sl⟩, n, ho, hc, hdn, hd⟩, hlen⟩ := I.list hs
  obtain rfl : cls' = _ := hc
  obtain rfl : data = _ := hd
  have all : ∀ w ∈ its.toArray, SeqAt.EqAt X.A.in1 s w u (eqU y w) := fun w hw => mem_eqAt ru fy rv fys w (by simpa using hw)
  refine call_meets PySem.F.slot_list_count ⟨_, ho, rfl⟩ PySem.F.entry_list_count (PySem.F.args_list_count_2 _ _) (SeqAt.list_countAt l its.toArray n dd sl u (eqU y)) ⟨ho, all, ?_⟩
  have e : its.toArray.toList.countP (eqU y) = ys.countP fun z => eqV z y := count_eqU rv fys
  exact ⟨.int ((ys.countP fun z => eqV z y) : Nat), H, I.tok _, ⟨s.toks, by rw [e]⟩, q⟩
/-- a block whose reading may know how many slots there are -/
theorem pss_len {st : List Stmt} {t : TS} (n : Nat) (hn : X.N.length = n) (h : PSs X st t) : PSs X st (fun D σ H => σ.length = n → t D σ H) := ⟨fun pins s σ H D I hw => h.run pins s σ H D I (hw (I.len.trans hn))⟩
end
/-- what _law_word makes of a call: "let", "number" for a NoNumber, "reaches" for a NoReaches -/
def TTword (CN CR : Addr) : (XK → Hp → VK → Prop) → Hp → VK → Prop := fun tl H Q => tl (fun cls d H' => d = none ∧ ((cls = .ref CN ∧ ∀ H'', Ext H' H'' → Q (.str "number") H'') ∨ (cls = .ref CR ∧ ∀ H'', Ext H' H'' → Q (.str "reaches") H''))) H (fun _ H' => ∃ v, some (some (V.str "let")) = some (some v) ∧ Q v H')
structure WordC (K : PySem.W.Frag) (mg : Str → Option Value) (CN CR CE fI : Addr) : Prop where
  n : ErrC K mg "NoNumber" CN fI
  r : ErrC K mg "NoReaches" CR fI
  mE : mg "WebError" = some (.ref CE)
  eN : PySem.W.exmOne K (.ref CN) (.ref CE) = some true
  eR : PySem.W.exmOne K (.ref CR) (.ref CE) = some true
  nV : PySem.W.kitOne K (.ref CN) (.type "ValueError") = some true
  rV : PySem.W.kitOne K (.ref CR) (.type "ValueError") = some true
  nR : PySem.W.kitOne K (.ref CN) (.ref CR) = some false
  rN : PySem.W.kitOne K (.ref CR) (.ref CN) = some false
abbrev wordN : List Str := ["call", "word", "error", "flags", "names"]
theorem scWord : FnScope wordN ["call"] (defScope sWord) := ⟨rfl, rfl, rfl, by decide +kernel, rfl, by decide +kernel, by decide +kernel⟩
theorem five {σ : L2.St} (h : σ.length = 5) : ∃ x0 x1 x2 x3 x4, σ = [x0, x1, x2, x3, x4] := by
  match σ, h with
  | [x0, x1, x2, x3, x4], _ => exact ⟨_, _, _, _, _, rfl⟩
theorem word_gives {X : Cx} {g CN CR CE fI : Addr} {cdg : Value} {q : Str} (T : Gb X.mg) (C : WordC X.K X.mg CN CR CE fI) : GivesTo X wordN "_law_word" (defScope sWord) g cdg (defBody sWord) "call" q (TTword CN CR) := by
  intro f c' s H Q tl act hc h
  refine ⟨_, pss_cons (ps_set (i := 1) scWord.nd rfl (Or.inl rfl) pe_str)
    (pss_cons (ps_try_as (X := (cxOf C8.CX0 X.prog X.w X.K X.mg X.base wordN "_law_word" (defScope sWord) g cdg X.A X.stack s H C8.E0).nox) (c := .ref CE) (i := 2)
        (tb := fun W D σ H => ∃ Ech : XK, (∀ cls d σ' H', Ech cls d H' → W cls d σ' H') ∧ σ[0]? = some (some (.ref f)) ∧ H c' = some (CodeO c' q) ∧ tl Ech H (fun _ H' => D.nx σ H'))
        rfl rfl scWord.nd rfl rfl ⟨rfl, by decide, .inl C.mE⟩ L2.takes0 (fun W pn xe tk _ => ⟨fun pins s' σ H' D I h' => ?_⟩)
        (fun a oe cls d pn hz hf => pss_len 5 rfl (pss_cons (ps_set (i := 3) scWord.nd rfl (Or.inl rfl) (pe_lst (pa_cons (pe_callB (CallR.or (call_isX0 C.n.is hz hf) (call_isX0 C.r.is hz hf)) (by rfl) T.isi (by decide +kernel) (pa_cons (pv 2) (pa_cons (pe_glob (v := .ref CN) rfl C.n.gC rfl) pa_nil)))
            (pa_cons (pe_callB (CallR.or (call_isX0 C.n.is hz hf) (call_isX0 C.r.is hz hf)) (by rfl) T.isi (by decide +kernel) (pa_cons (pv 2) (pa_cons (pe_glob (v := .ref CR) rfl C.r.gC rfl) pa_nil))) pa_nil))))
          (pss_cons (ps_set (i := 4) scWord.nd rfl (Or.inl rfl) (pe_lst (pa_cons pe_str (pa_cons pe_str pa_nil))))
          (pss_one (ps_set (i := 1) scWord.nd rfl (Or.inl rfl) (pe_ifExp (PW.pt (pw_and (pt_cmpR (ta := tBM X.K "list" (rCntF X.K) (tVar 3) (tCons (tC (.bl true)) tNil)) op_eq (pe_bm PySem.F.plainAttrs_list PySem.F.slot_list_count PySem.F.type_list_count mt_countF (pv 3) (pa_cons pe_bl pa_nil)) pe_int (nomark _))
              (pw_and1 (pt_val (pe_callB (CallR.or (call_isX0 C.n.is hz hf) (call_isX0 C.r.is hz hf)) (by rfl) T.isi (by decide +kernel) (pa_cons (pv 2) (pa_cons (pe_bltn (v := .ty "ValueError") (by rfl) T.ve (by decide +kernel) rfl) pa_nil)))))))
            (pe_ix (r := rIxL X.K) (ta := tVar 4) (tb := tBM X.K "list" (rIndex X.K) (tVar 3) (tCons (tC (.bl true)) tNil)) ix_list (pv 4) (pe_bm PySem.F.plainAttrs_list PySem.F.slot_list_index PySem.F.type_list_index mt_index (pv 3) (pa_cons pe_bl pa_nil)) (fun _ _ => rfl)) pe_str)))))))
    (pss_one (ps_ret (pv 1)))), ?_⟩
  · obtain ⟨Ech, hW, h1, h2, h3⟩ := h'
    exact (pss_one (ps_expr (act W pn xe Ech _ _ tk hW))).run pins s' σ H' D I ⟨h1, h2, h3⟩
  · refine ⟨fun cls d H' => d = none ∧ ((cls = .ref CN ∧ ∀ H'', Ext H' H'' → Q (.str "number") H'') ∨ (cls = .ref CR ∧ ∀ H'', Ext H' H'' → Q (.str "reaches") H'')), ?_, rfl, hc, h⟩
    rintro cls d σ' H' ⟨rfl, ⟨rfl, k⟩ | ⟨rfl, k⟩⟩
    · refine ⟨true, C.eN, fun _ a na hl => ?_, fun z => nomatch z⟩
      rw [List.length_set] at hl
      obtain ⟨x0, x1, x2, x3, x4, rfl⟩ := five hl
      refine ⟨_, rfl, .inl ⟨.ref CN, .ref CN, true, rfl, .own CN, rfl, rfl, kit_same, ?_⟩⟩
      refine ⟨_, rfl, .inl ⟨.ref CR, .ref CR, false, rfl, .own CR, rfl, rfl, C.nR, ?_⟩⟩
      refine ⟨by show 2 ≤ sizeLine; decide, fun l nl => ?_⟩
      refine ⟨by show 2 ≤ sizeLine; decide, fun l2 nl2 => ?_⟩
      have hl1 : (upd (upd H' l (.lst [.bl true, .bl false])) l2 (.lst [.str "number", .str "reaches"])) l = some (.lst [.bl true, .bl false]) := Ext.upd nl2 _ _ upd_same
      refine ⟨_, rfl, .inl ⟨rfl, _, SqL.of hl1⟩, l, _, .bl true, rfl, rfl, SqL.of hl1, rfl, rfl, rfl, _, rfl, ?_⟩
      refine iteT ⟨_, rfl, .inl ⟨.ty "ValueError", .type "ValueError", true, rfl, .ty "ValueError", rfl, rfl, C.nV, _, rfl, ?_⟩⟩
      refine iteT ⟨_, rfl, _, rfl, .inl ⟨rfl, _, SqL.of hl1⟩, l, _, .bl true, 0, .bl true, rfl, rfl, SqL.of hl1, rfl, rfl, rfl, rfl, fun m z' hm => absurd hm (Nat.not_lt_zero m), ?_⟩
      refine ⟨l2, _, _, _, rfl, rfl, SqL.of upd_same, rfl, ?_⟩
      exact ⟨_, rfl, k _ ((Ext.upd nl).trans (Ext.upd nl2))⟩
    · refine ⟨true, C.eR, fun _ a na hl => ?_, fun z => nomatch z⟩
      rw [List.length_set] at hl
      obtain ⟨x0, x1, x2, x3, x4, rfl⟩ := five hl
      refine ⟨_, rfl, .inr ⟨.ref CN, .ref CN, false, rfl, .own CN, rfl, rfl, C.rN, ?_⟩⟩
      refine ⟨_, rfl, .inr ⟨.ref CR, .ref CR, true, rfl, .own CR, rfl, rfl, kit_same, ?_⟩⟩
      refine ⟨by show 2 ≤ sizeLine; decide, fun l nl => ?_⟩
      refine ⟨by show 2 ≤ sizeLine; decide, fun l2 nl2 => ?_⟩
      have hl1 : (upd (upd H' l (.lst [.bl false, .bl true])) l2 (.lst [.str "number", .str "reaches"])) l = some (.lst [.bl false, .bl true]) := Ext.upd nl2 _ _ upd_same
      refine ⟨_, rfl, .inl ⟨rfl, _, SqL.of hl1⟩, l, _, .bl true, rfl, rfl, SqL.of hl1, rfl, rfl, rfl, _, rfl, ?_⟩
      refine iteT ⟨_, rfl, .inr ⟨.ty "ValueError", .type "ValueError", true, rfl, .ty "ValueError", rfl, rfl, C.rV, _, rfl, ?_⟩⟩
      refine iteT ⟨_, rfl, _, rfl, .inl ⟨rfl, _, SqL.of hl1⟩, l, _, .bl true, 1, .bl true, rfl, rfl, SqL.of hl1, rfl, rfl, rfl, rfl, fun m z' hm hz => by
        match m, hm, hz with
        | 0, _, hz => cases hz; rfl, ?_⟩
      refine ⟨l2, _, _, _, rfl, rfl, SqL.of upd_same, rfl, ?_⟩
      exact ⟨_, rfl, k _ ((Ext.upd nl).trans (Ext.upd nl2))⟩
end R36

set_option Elab.async false
set_option linter.all false
set_option maxRecDepth 100000
set_option maxHeartbeats 1000000
set_option pp.maxSteps 60
/-! d.pop(k) of a key that is there, without another answer, of a dict whose keys are tuples. -/
namespace R36
open PySem L2 PySem.Spec PyProof.Rows
def rPopN : V → List V → Hp → VK → Prop := fun x xs H Q => ∃ (a : Addr) (kvs : List (List Key × V)) (k : List Key) (b : Addr) (v : V), x = .ref a ∧ xs = [.ref b] ∧ H a = some (.dT kvs) ∧ H b = some (.tup (k.map kV)) ∧
  valV kvs k = some v ∧ Q v (upd H a (.dT (dropK kvs k)))
theorem val_drop {k : List Key} (kvs : List (List Key × V)) : valV (dropK kvs k) k = none := by
  unfold valV
  rw [Option.map_eq_none_iff, List.find?_eq_none]
  intro x hx
  have h := (List.mem_filter.mp hx).2
  have : ¬ x.1 = k := by simpa using h
  simpa using this
theorem drop_bad {kvs : List (List Key × V)} {m : Nat} {l : List Int} (h : l ∈ strL m) : ¬ GoodR (dropK kvs (kS l)) m := fun z => by
  obtain ⟨i, _, e⟩ := z.2 l h
  rw [val_drop] at e
  cases e
section
variable {X : Cx}
theorem mt_popN (hu : X.A.units + 1 < cLine) : MtR X "dict.pop" rPopN := by
  intro pins s σ H x xs v us Q I rx rxs h
  obtain ⟨a, kvs, k, b, v0, rfl, rfl, ha, hb, ev, q⟩ := h
  cases rx
  obtain ⟨u1, rfl, r1⟩ := rxs.one
  cases r1
  obtain ⟨z, hd, xs', rel, dd⟩ := dt_of I.hok ha
  have hz : xs'.length ≤ sizeLine := by rw [← Paired.length rel]; exact z
  have r := rel.val k
  obtain ⟨p, hp, rv⟩ : ∃ p, atKey xs' k = some p ∧ RelV v0 p.2 := by
    cases hp : atKey xs' k with
    | none =>
      rw [hp, ev] at r
      exact (show False from r).elim
    | some p =>
      rw [hp, ev] at r
      exact ⟨p, rfl, r⟩
  refine call_pop_heap (knd := tupleKind (mixKind X.prog X.w)) (more := []) (.inl rfl) (PySem.F.args_dict_pop_2 _ _) (tupleKind_room_in1 hu) (key_of I.hok hb) hd dd hp (fun h' dd' hs => ?_) hz
  obtain ⟨o, es, ep, hq, h2, h3, h4, _, h5⟩ := dd'
  have I2 := d_write (t' := s.toks + (tupleKind (mixKind X.prog X.w)).draws k) (ob := .dT (dropK kvs k)) I (by rw [ha]; exact True.intro) hs ⟨o, hq⟩ ⟨Nat.le_trans (dropK_le kvs k) z, hd, _, (DX.KT_drop k rel).keeps (fun c ys ec => (by rw [upd_ne (ne_of ec ha (fun z => nomatch z))]; exact ec)), o, es, ep, hq, h2, h3, h4, h5⟩
  exact ⟨v0, _, I2, rv, q⟩
end
end R36

set_option Elab.async false
set_option linter.all false
set_option maxRecDepth 100000
set_option maxHeartbeats 1000000
set_option pp.maxSteps 60
/-! sorted(d.items()), d a dict from pairs of ints to ints: some list. -/
namespace R36
open PySem L2 PySem.Spec PyProof.Rows
def itAt (h : Heap) (a : Addr) : List Value := match h.get? a with
  | some o => (match o.data with
    | .seq xs _ => xs.toList
    | _ => [])
  | none => []
theorem itAt_of {h : Heap} {a : Addr} {items : Array Value} (x : IsTup h a items) : itAt h a = items.toList := by
  obtain ⟨o, ho, hc, n, hd⟩ := x
  simp only [itAt, ho, hd]
def pr2 : List Value → Int × Int
  | [.int x _, .int y _] => (x, y)
  | _ => (0, 0)
def fst2 : List Value → Addr
  | [.ref q, _] => q
  | _ => 0
/-- the key of an item, read off the heap -/
def keyOf (h : Heap) (v : Value) : Int × Int := pr2 (itAt h (fst2 (itAt h (adr v))))
section
variable {prog : Program} {w : World} {A : Around} {E : Value → Shared → Prop} {s : Shared}
def ItIn (prog : Program) (w : World) (h : Heap) (v : Value) (x y d : Int) : Prop := ∃ (a q : Addr) (t t1 t2 : Tok), v = .ref a ∧ IsTup h a #[.ref q, .int d t] ∧ IsTup h q #[.int x t1, .int y t2]
theorem ItIn.key {h : Heap} {v : Value} {x y d : Int} (i : ItIn prog w h v x y d) : keyOf h v = (x, y) := by
  obtain ⟨a, q, t, t1, t2, rfl, h1, h2⟩ := i
  show pr2 (itAt h (fst2 (itAt h a))) = (x, y)
  rw [itAt_of h1]
  show pr2 (itAt h q) = (x, y)
  rw [itAt_of h2]
  rfl
theorem ItIn.keeps {h h' : Heap} {v : Value} {x y d : Int} (i : ItIn prog w h v x y d) (k : ∀ b o, h.get? b = some o → o.cls = .type "tuple" → h'.get? b = some o) : ItIn prog w h' v x y d := by
  obtain ⟨a, q, t, t1, t2, e, ⟨o, ho, hc, r⟩, ⟨o2, ho2, hc2, r2⟩⟩ := i
  exact ⟨a, q, t, t1, t2, e, ⟨o, k _ _ ho hc, hc, r⟩, ⟨o2, k _ _ ho2 hc2, hc2, r2⟩⟩
theorem itFirsts {h : Heap} : ∀ vs : List Value, (∀ v ∈ vs, ∃ x y d, ItIn prog w h v x y d) → ∃ fs : List Value, PySem.W.KatTups h vs fs ∧ fs.length = vs.length ∧ ∀ f ∈ fs, ∃ (q : Addr) (o : Obj), f = Value.ref q ∧ h.get? q = some o ∧ o.cls = .type "tuple"
  | [], _ => ⟨[], PySem.W.KatTups.nil, rfl, fun f hf => by simp at hf⟩
  | v :: vs, x => by
    obtain ⟨fs, k, hl, hi⟩ := itFirsts vs fun u hu => x u (List.mem_cons_of_mem _ hu)
    obtain ⟨_, _, _, a, q, t, t1, t2, rfl, ⟨o, ho, hc, n, hd⟩, ⟨o2, ho2, hc2, _⟩⟩ := x v (List.mem_cons_self ..)
    refine ⟨.ref q :: fs, PySem.W.KatTups.cons ho hc hd rfl k, by rw [List.length_cons, List.length_cons, hl], fun f hf => ?_⟩
    rcases List.mem_cons.mp hf with rfl | hf
    · exact ⟨q, o2, rfl, ho2, hc2⟩
    · exact hi f hf
theorem itKey {h : Heap} {q : Addr} {x y : Int} {t1 t2 : Tok} (i : IsTup h q #[.int x t1, .int y t2]) : IsTupleKey (L2.mixKind prog w) h [Sum.inl x, Sum.inl y] q := by
  obtain ⟨ok, hok, ck, nk, dk⟩ := i
  exact ⟨ok, _, nk, hok, ck, dk, .cons (L2.mixKind_int prog w x t1) (.cons (L2.mixKind_int prog w y t2) .nil)⟩
theorem it_cmp (hu : A.units + 1 < cLine) {vs : List Value} (D : Int × Int → Int) (hp : ∀ v ∈ vs, ItIn prog w s.heap v (keyOf s.heap v).1 (keyOf s.heap v).2 (D (keyOf s.heap v))) :
    SrtO.Cmp prog w A s (tuples' false) (fun p => p.1 ∈ vs) (SrtO.lt2 fun v u => SrtO.lexB (keyOf s.heap v) (keyOf s.heap u)) := by
  intro p q hm hm'
  have h1 := hp _ hm
  have h2 := hp _ hm'
  show wpAny (model prog w) A (keyLt' (tuples' false) p.1 q.1) (fun r s' => s' = s ∧ r = SrtO.lexB (keyOf s.heap p.1) (keyOf s.heap q.1)) (fun _ _ => False) s
  generalize keyOf s.heap p.1 = kp at h1 ⊢
  generalize keyOf s.heap q.1 = kq at h2 ⊢
  obtain ⟨x, y⟩ := kp
  obtain ⟨x', y'⟩ := kq
  obtain ⟨a, ka, t, t1, t2, e1, ⟨o, ho, hc, n, hd⟩, i2⟩ := h1
  obtain ⟨a', kb, t', t1', t2', e2, ⟨o', ho', hc', n', hd'⟩, i2'⟩ := h2
  rw [e1, e2]
  refine PySem.W.kat_lt ho hd ho' hd' ?_
  show PySem.W.KatLex prog w A false false _ [(Value.ref ka, Value.ref kb), (Value.int (D (x, y)) t, Value.int (D (x', y')) t')] 0 s
  refine PySem.W.kat_cons (wpAny_eqBool_tuple (by omega) (itKey (prog := prog) (w := w) i2) (itKey i2') ?_)
  by_cases e : x = x' ∧ y = y'
  · obtain ⟨rfl, rfl⟩ := e
    refine PySem.W.kat_go (fun _ => ?_) (fun e0 => absurd rfl (of_decide_eq_false e0))
    refine PySem.W.kat_yes (PySem.W.kat_cons (SeqAt.EqAt.int_int _ t _ t' prog w _ _ ?_))
    refine PySem.W.kat_go (fun _ => ?_) (fun e0 => by simp at e0)
    refine PySem.W.kat_yes (PySem.W.kat_nil ⟨rfl, ?_⟩)
    unfold SrtO.lexB
    rw [if_pos rfl]
    exact (decide_eq_false (Int.lt_irrefl _)).symm
  · refine PySem.W.kat_go (fun e0 => ?_) (fun _ => ?_)
    · exfalso
      have z0 := of_decide_eq_true e0
      injection z0 with z1 z2
      injection z1 with z3
      injection z2 with z4 _
      injection z4 with z5
      exact e ⟨z3, z5⟩
    · refine PySem.W.kat_no ?_
      show wpAny _ _ (oneLt' false _ _) _ _ _
      refine PySem.W.kat_one _ _ (HT.lt_tupInts (ns := [x, y]) (ms := [x', y']) i2 i2' (.cons _ _ (.cons _ _ .nil)) (.cons _ _ (.cons _ _ .nil)) (by omega) ?_)
      refine (show s = s ∧ HT.lexLt [x, y] [x', y'] = SrtO.lexB (x, y) (x', y') from ⟨rfl, ?_⟩)
      rw [HT.lexLt_cons, HT.lexLt_cons]
      unfold SrtO.lexB
      by_cases ex : x = x'
      · rw [if_pos ex, if_neg (fun ey => e ⟨ex, ey⟩), if_pos ex]
      · rw [if_neg ex, if_neg ex]
theorem items_sortableO (hu : A.units + 1 < cLine) {a : Addr} {vs : List Value} (D : Int × Int → Int) (h0 : 0 < vs.length) (hp : ∀ v ∈ vs, ItIn prog w s.heap v (keyOf s.heap v).1 (keyOf s.heap v).2 (D (keyOf s.heap v)))
    (ha : ∀ o, s.heap.get? a = some o → o.cls ≠ .type "tuple") : SrtO.SortableO prog w A s a vs fun v u => SrtO.lexB (keyOf s.heap v) (keyOf s.heap u) := by
  intro h' keep
  have hk : ∀ v ∈ vs, keyOf h' v = keyOf s.heap v := fun v hm => by
    have z := (hp v hm).keeps (h' := h') fun b o e c => keep b o (fun z => by subst z; exact ha o e c) e
    rw [z.key]
  have hp' : ∀ v ∈ vs, ItIn prog w h' v (keyOf h' v).1 (keyOf h' v).2 (D (keyOf h' v)) := fun v hm => by
    rw [hk v hm]
    exact (hp v hm).keeps fun b o e c => keep b o (fun z => by subst z; exact ha o e c) e
  obtain ⟨fs, h1, h2, h3⟩ := itFirsts vs fun v hm => ⟨_, _, _, hp' v hm⟩
  refine ⟨tuples' false, fun Q E hq => ?_, fun p q hm hm' => ?_⟩
  · refine PySem.W.kat_kind (T := .type "tuple") h1 (by omega) (fun f hf => ?_) (by rfl) ?_
    · obtain ⟨q, o, rfl, ho, hc⟩ := h3 f hf
      have z : PySem.W.Looks (model prog w) h' (typeOf (.ref q)) o.cls := (PySem.W.Looks.ld ho).andThen .now
      rw [hc] at z
      exact z
    · have e : (Value.type "tuple" != Value.type "tuple") = false := by first | decide +kernel | rfl | decide
      rw [e]
      exact hq
  · have c := it_cmp (s := { s with heap := h' }) hu D hp' p q hm hm'
    have e : SrtO.lt2 (fun v u => SrtO.lexB (keyOf s.heap v) (keyOf s.heap u)) p q = SrtO.lt2 (fun v u => SrtO.lexB (keyOf h' v) (keyOf h' u)) p q := by
      show SrtO.lexB (keyOf s.heap p.1) (keyOf s.heap q.1) = SrtO.lexB (keyOf h' p.1) (keyOf h' q.1)
      rw [hk _ hm, hk _ hm']
    rw [e]
    exact c
end
end R36

set_option Elab.async false
set_option linter.all false
set_option maxRecDepth 100000
set_option maxHeartbeats 1000000
set_option pp.maxSteps 60
/-! sorted(d.items()), d a dict from pairs of ints to ints: some list. -/
namespace R36
open PySem L2 PySem.Spec PyProof.Rows
def rSortII : List V → Hp → VK → Prop := fun vs H Q => ∃ (p a : Addr) (kvs : List (List Key × V)), vs = [.ref p] ∧ H p = some (DX.itemsO p a) ∧ H a = some (.dT kvs) ∧ (∀ kv ∈ kvs, ∃ b e d : Int, kv = ([.inl b, .inl e], .int d)) ∧ kvs.length ≤ 1000 ∧
  ∀ (l : Addr) (ys : List V), H l = Option.none → Q (.ref l) (upd H l (.lst ys))
def dOf (kvs : List (List Key × V)) (k : Int × Int) : Int := match valV kvs [.inl k.1, .inl k.2] with
  | some (.int d) => d
  | _ => 0
theorem rel_int {v : V} {d : Int} {t : Tok} (r : RelV v (.int d t)) : v = .int d := by
  cases v with
  | int z =>
    obtain ⟨t', e⟩ := r
    cases e
    rfl
  | str z => obtain ⟨t', e⟩ := r; cases e
  | byt z => obtain ⟨t', e⟩ := r; cases e
  | flt z => obtain ⟨t', e⟩ := r; cases e
  | non => cases (show Value.int d t = Value.none from r)
  | bl b => cases (show Value.int d t = Value.bool b from r)
  | ref a => cases (show Value.int d t = Value.ref a from r)
  | ty n => cases (show Value.int d t = Value.type n from r)
theorem cr_sortedII {X : Cx} (hc : X.calm = true) (hu : X.A.units + 64 < cLine) : CallR X (.builtin "sorted") rSortII := by
  rintro pins s σ H xs us Q I r ⟨p, a, kvs, rfl, hp, ha, two, h1000, q⟩
  obtain rfl := Vals.ref1 r
  have view : s.heap.IsItemsView p a := (show ObjOk X.prog X.w H s.heap p (DX.itemsO p a) from I.hok p _ hp).1
  obtain ⟨z, hd, xs', rel, o, es, ep, ho, hx, hdat, hes, his, hn⟩ := dt_of I.hok ha
  have l1 : kvs.length = xs'.length := Paired.length rel
  have l2 : es.size = xs'.length := size_of_entries hes
  have hh : X.A.handled = none := I.ok.hd hc
  refine DT.sortedI (es := es) (ep := ep) hh view ⟨o, ho, hx, hdat⟩ (by rw [sizeLine_eq]; omega) fun h' tk as hk hlt hl hG => ?_
  have lak : as.length = kvs.length := by omega
  have pr : ∀ (j : Nat) (b : Addr), as[j]? = some b → ∃ (x y d : Int) (kq : Addr) (t : Tok), H kq = some (.tup [.int x, .int y]) ∧ h'.get? b = some { cls := .type "tuple", data := .seq #[Value.ref kq, Value.int d t] } ∧ dOf kvs (x, y) = d := by
    intro j b hj
    obtain ⟨en, he, hg⟩ := hG.pairs j b hj
    rw [entry_at hes j] at he
    cases hxj : xs'[j]? with
    | none =>
      rw [hxj] at he
      exact nomatch (show (none : Option DictEntry) = some en from he)
    | some x =>
      rw [hxj] at he
      have een : entryOfKey (tupleKind (mixKind X.prog X.w)) x = en := Option.some.inj he
      obtain ⟨e0, he0, r1, r2, r3⟩ := DX.pget rel hxj
      obtain ⟨bx, by', d, e4⟩ := two e0 (List.mem_of_getElem? he0)
      subst e4
      obtain ⟨t, r3'⟩ := (show ∃ t, x.2.2 = Value.int d t from r3)
      refine ⟨bx, by', d, x.2.1, t, r2, ?_, ?_⟩
      · rw [hg, ← een, ← r3']
        all_goals rfl
      · have rv := rel.val [.inl bx, .inl by']
        have hx' : xs'[j]? = some ([.inl bx, .inl by'], x.2) := by
          rw [hxj]
          have e5 : [Sum.inl bx, Sum.inl by'] = x.1 := r1
          rw [e5]
        rw [atKey_of_get hn hx'] at rv
        have rv' : RelO (valV kvs [.inl bx, .inl by']) (some x.2.2) := rv
        rw [r3'] at rv'
        unfold dOf
        show (match valV kvs [.inl bx, .inl by'] with | some (.int d) => d | _ => 0) = d
        cases hv : valV kvs [.inl bx, .inl by'] with
        | none =>
          rw [hv] at rv'
          exact (show False from rv').elim
        | some v =>
          rw [hv] at rv'
          rw [rel_int (show RelV v (.int d t) from rv')]
  have hob : (h'.push { cls := .type "list", data := .seq (as.map Value.ref).toArray }).get? h'.objs.size = some (seqObj "list" (as.map Value.ref).toArray 0) := Heap.get?_push_size _ rfl
  have kb : ∀ b o, s.heap.get? b = some o → (h'.push { cls := .type "list", data := .seq (as.map Value.ref).toArray }).get? b = some o := fun b o e => Heap.get?_push_of_some _ (hk b o e)
  have hsz2 : (h'.push { cls := .type "list", data := .seq (as.map Value.ref).toArray }).objs.size = h'.objs.size + 1 := size_push' _ _
  generalize hh2 : h'.push { cls := .type "list", data := .seq (as.map Value.ref).toArray } = h2 at hob kb hsz2 ⊢
  have ka : ∀ b o, h'.get? b = some o → h2.get? b = some o := fun b o e => by rw [← hh2]; exact Heap.get?_push_of_some _ e
  have isIt : ∀ v ∈ as.map Value.ref, ItIn X.prog X.w h2 v (keyOf h2 v).1 (keyOf h2 v).2 (dOf kvs (keyOf h2 v)) := by
    intro v hv
    obtain ⟨b, hb, rfl⟩ := List.mem_map.mp hv
    obtain ⟨j, hj⟩ := List.mem_iff_getElem?.mp hb
    obtain ⟨x, y, d, kq, t, hkq, hg, ed⟩ := pr j b hj
    obtain ⟨_, its, rv, ot, hot, hct, nt, hdt⟩ := (show ObjOk X.prog X.w H s.heap kq (.tup [.int x, .int y]) from I.hok kq _ hkq)
    obtain ⟨u1, u2, rfl, ri, rj⟩ := vals2 rv
    obtain ⟨t1, rfl⟩ := ri
    obtain ⟨t2, rfl⟩ := rj
    have i : ItIn X.prog X.w h2 (.ref b) x y d := ⟨b, kq, t, t1, t2, rfl, ⟨_, ka _ _ hg, rfl, 0, rfl⟩, ⟨ot, kb _ _ hot, hct, nt, hdt⟩⟩
    rw [i.key]
    show ItIn X.prog X.w h2 (.ref b) x y (dOf kvs (x, y))
    rw [ed]
    exact i
  refine wpAny_call_entry PyProof.Rows.slot_list_sort ⟨_, hob, rfl⟩ PyProof.Rows.entry_list_sort
    (SrtO.list_sort_ord (s := { s with heap := h2, toks := tk }) (SrtO.swo_lex fun v => keyOf h2 v) hob (by rw [List.length_map, sizeLine_eq]; omega) (fun h2' => ?_) fun out hsr hb => ⟨.none, rfl, ?_⟩) (PyProof.Rows.args_list_sort _)
  · refine items_sortableO (by show X.A.units + 1 + 1 + 1 < cLine; omega) (dOf kvs) (by omega) isIt fun o e => ?_
    have e' : some o = some (seqObj "list" (as.map Value.ref).toArray 0) := e.symm.trans hob
    cases e'
    intro c
    exact absurd (Value.type.inj c) (by decide)
  · show EP X pins σ Q (.ref h'.objs.size) { s with heap := sortedHeap h2 h'.objs.size (as.map Value.ref) out.toArray, toks := tk }
    have refs : ∀ v ∈ out, ∃ t, v = Value.ref t := fun v hv => by
      obtain ⟨b, _, e⟩ := List.mem_map.mp (hb.perm.mem_iff.mp hv)
      exact ⟨b, e.symm⟩
    have eo := ref_adr refs
    obtain ⟨n, hn'⟩ := sortedHeap_at (out := out.toArray) hob
    have hg : s.heap.get? h'.objs.size = Option.none := by
      cases e : s.heap.get? h'.objs.size with
      | none => rfl
      | some ob => exact absurd (Heap.lt_size (hk _ _ e)) (Nat.lt_irrefl _)
    have hf : H h'.objs.size = Option.none := by
      cases e : H h'.objs.size with
      | none => rfl
      | some u =>
        obtain ⟨ob, e2⟩ := ok_there (I.hok _ _ e)
        rw [hg] at e2
        cases e2
    refine ⟨.ref h'.objs.size, upd H h'.objs.size (.lst ((out.map adr).map V.ref)), ?_, rfl, q _ _ hf⟩
    refine I.laidN (fun b ob e => ?_) hg hf ⟨?_, out, n, ?_, hn'⟩
    · have lt := Heap.lt_size (hk _ _ e)
      rw [sortedHeap_old (Nat.ne_of_lt lt) (by rw [hsz2]; exact Nat.lt_succ_of_lt lt)]
      exact kb _ _ e
    · rw [List.length_map, List.length_map, hb.len, List.length_map, sizeLine_eq]
      omega
    · have v := L2.vals_refs (out.map adr)
      rw [← eo] at v
      exact v
end R36

set_option Elab.async false
set_option linter.all false
set_option maxRecDepth 100000
set_option maxHeartbeats 1000000
set_option pp.maxSteps 60
/-! What reaches tell of the bars that they were made of: the mathematics. -/
namespace R36
open PySem L2
/-- bars: from, to, how many -/
abbrev Bs := List (Int × Int × Int)
def sm (L : Bs) (b e : Int) : Int := (L.map fun q => if q.1 ≤ b ∧ e ≤ q.2.1 then q.2.2 else 0).sum
def at1 (L : Bs) (b e : Int) : Int := (L.map fun q => if q.1 = b ∧ q.2.1 = e then q.2.2 else 0).sum
theorem sm_cons (q : Int × Int × Int) (L : Bs) (b e : Int) : sm (q :: L) b e = (if q.1 ≤ b ∧ e ≤ q.2.1 then q.2.2 else 0) + sm L b e := by
  unfold sm
  rw [List.map_cons, List.sum_cons]
theorem at1_cons (q : Int × Int × Int) (L : Bs) (b e : Int) : at1 (q :: L) b e = (if q.1 = b ∧ q.2.1 = e then q.2.2 else 0) + at1 L b e := by
  unfold at1
  rw [List.map_cons, List.sum_cons]
theorem sm_diff (b e : Int) : ∀ L : Bs, sm L b e - sm L (b - 1) e - sm L b (e + 1) + sm L (b - 1) (e + 1) = at1 L b e
  | [] => rfl
  | q :: L => by
    have ih := sm_diff b e L
    rw [sm_cons, sm_cons, sm_cons, sm_cons, at1_cons]
    by_cases h1 : q.1 ≤ b
    · by_cases h2 : e ≤ q.2.1
      · rw [if_pos ⟨h1, h2⟩]
        by_cases h3 : q.1 ≤ b - 1
        · rw [if_pos ⟨h3, h2⟩, if_neg (show ¬ (q.1 = b ∧ q.2.1 = e) by omega)]
          by_cases h4 : e + 1 ≤ q.2.1
          · rw [if_pos ⟨h1, h4⟩, if_pos ⟨h3, h4⟩]; omega
          · rw [if_neg (fun z => h4 z.2), if_neg (fun z => h4 z.2)]; omega
        · rw [if_neg (fun z => h3 z.1)]
          by_cases h4 : e + 1 ≤ q.2.1
          · rw [if_pos ⟨h1, h4⟩, if_neg (fun z => h3 z.1), if_neg (show ¬ (q.1 = b ∧ q.2.1 = e) by omega)]; omega
          · rw [if_neg (fun z => h4 z.2), if_neg (fun z => h3 z.1), if_pos (show q.1 = b ∧ q.2.1 = e by omega)]; omega
      · rw [if_neg (fun z => h2 z.2), if_neg (fun z => h2 z.2), if_neg (show ¬ (q.1 ≤ b ∧ e + 1 ≤ q.2.1) by omega), if_neg (show ¬ (q.1 ≤ b - 1 ∧ e + 1 ≤ q.2.1) by omega), if_neg (show ¬ (q.1 = b ∧ q.2.1 = e) by omega)]; omega
    · rw [if_neg (fun z => h1 z.1), if_neg (show ¬ (q.1 ≤ b - 1 ∧ e ≤ q.2.1) by omega), if_neg (fun z => h1 z.1), if_neg (show ¬ (q.1 ≤ b - 1 ∧ e + 1 ≤ q.2.1) by omega), if_neg (show ¬ (q.1 = b ∧ q.2.1 = e) by omega)]; omega
theorem at1_zero {b e : Int} : ∀ {L : Bs}, (∀ q ∈ L, ¬ (q.1 = b ∧ q.2.1 = e)) → at1 L b e = 0
  | [], _ => rfl
  | q :: L, h => by
    rw [at1_cons, if_neg (h q List.mem_cons_self), at1_zero fun r hr => h r (List.mem_cons_of_mem _ hr)]
    rfl
theorem at1_mem {q : Int × Int × Int} : ∀ {L : Bs}, L.Pairwise (fun x y => ¬ (x.1 = y.1 ∧ x.2.1 = y.2.1)) → q ∈ L → at1 L q.1 q.2.1 = q.2.2
  | [], _, h => by cases h
  | r :: L, nd, h => by
    rw [List.pairwise_cons] at nd
    rw [at1_cons]
    rcases List.mem_cons.mp h with e | h
    · subst e
      rw [if_pos ⟨rfl, rfl⟩, at1_zero fun x hx z => nd.1 x hx ⟨z.1.symm, z.2.symm⟩]
      omega
    · rw [if_neg (fun z => nd.1 q h z), at1_mem nd.2 h]
      omega
theorem sm_out {L : Bs} {b e : Int} (h : ∀ q ∈ L, ¬ (q.1 ≤ b ∧ e ≤ q.2.1)) : sm L b e = 0 := by
  induction L with
  | nil => rfl
  | cons q L ih => rw [sm_cons, if_neg (h q List.mem_cons_self), ih fun r hr => h r (List.mem_cons_of_mem _ hr)]; rfl
/-- no count is below 0: all bars are told -/
theorem outL_all {kvs : List (List Key × V)} : ∀ (S acc : List (List Int)), (∀ l ∈ S, 0 ≤ c3 kvs l) → outL kvs S acc = .inr (acc ++ (S.filter fun l => decide (0 < c3 kvs l)).map fun l => [l.getD 0 0, l.getD 1 0, c3 kvs l])
  | [], acc, _ => by simp [outL]
  | l :: S, acc, h => by
    have h0 := h l List.mem_cons_self
    have ih := fun acc => outL_all S acc fun x hx => h x (List.mem_cons_of_mem _ hx)
    unfold outL
    rw [if_neg (by omega)]
    by_cases p : 0 < c3 kvs l
    · rw [if_pos p, ih, List.filter_cons_of_pos (p := fun l => decide (0 < c3 kvs l)) (decide_eq_true p), List.map_cons, List.append_assoc]
      rfl
    · rw [if_neg p, ih, List.filter_cons_of_neg (p := fun l => decide (0 < c3 kvs l)) (by simpa using p)]
/-- ascending lists of the same members are one -/
theorem asc_one {α : Type} {lt : α → α → Prop} (irr : ∀ x, ¬ lt x x) (asy : ∀ x y, lt x y → ¬ lt y x) : ∀ {xs ys : List α}, xs.Pairwise lt → ys.Pairwise lt → (∀ z, z ∈ xs ↔ z ∈ ys) → xs = ys
  | [], [], _, _, _ => rfl
  | [], y :: ys, _, _, h => by have := (h y).mpr List.mem_cons_self; cases this
  | x :: xs, [], _, _, h => by have := (h x).mp List.mem_cons_self; cases this
  | x :: xs, y :: ys, hx, hy, h => by
    rw [List.pairwise_cons] at hx hy
    have e : x = y := by
      rcases List.mem_cons.mp ((h x).mp List.mem_cons_self) with e | m
      · exact e
      · rcases List.mem_cons.mp ((h y).mpr List.mem_cons_self) with e | m2
        · exact e.symm
        · exact absurd (hx.1 y m2) (asy _ _ (hy.1 x m))
    subst e
    congr 1
    refine asc_one irr asy hx.2 hy.2 fun z => ⟨fun m => ?_, fun m => ?_⟩
    · rcases List.mem_cons.mp ((h z).mp (List.mem_cons_of_mem _ m)) with e | q
      · subst e; exact absurd (hx.1 z m) (irr z)
      · exact q
    · rcases List.mem_cons.mp ((h z).mpr (List.mem_cons_of_mem _ m)) with e | q
      · subst e; exact absurd (hy.1 z m) (irr z)
      · exact q
end R36

set_option Elab.async false
set_option linter.all false
set_option maxRecDepth 100000
set_option maxHeartbeats 1000000
set_option pp.maxSteps 60
/-! Stretches: which they are, their order; reaches made of bars. -/
namespace R36
open PySem L2
theorem mem_row {m i : Nat} {l : List Int} : l ∈ row m i ↔ ∃ j : Nat, j < m - i ∧ l = [(i : Int), (i : Int) + (j : Int)] := by
  unfold row
  rw [List.mem_map]
  constructor
  · rintro ⟨j, hj, rfl⟩
    exact ⟨j, List.mem_range.mp hj, by rw [Int.zero_add]⟩
  · rintro ⟨j, hj, rfl⟩
    exact ⟨j, List.mem_range.mpr hj, by rw [Int.zero_add]⟩
theorem mem_str {m : Nat} {b e : Int} : [b, e] ∈ strL m ↔ 0 ≤ b ∧ b ≤ e ∧ e < (m : Int) := by
  unfold strL upto
  rw [List.mem_flatMap]
  constructor
  · rintro ⟨i, hi, h⟩
    obtain ⟨j, hj, e1⟩ := mem_row.mp h
    have hi := List.mem_range.mp hi
    injection e1 with e1 e2
    injection e2 with e2 _
    omega
  · rintro ⟨h0, h1, h2⟩
    refine ⟨b.toNat, List.mem_range.mpr (by omega), mem_row.mpr ⟨(e - b).toNat, by omega, ?_⟩⟩
    have e1 : ((b.toNat : Nat) : Int) = b := by omega
    have e2 : ((b.toNat : Nat) : Int) + ((e - b).toNat : Int) = e := by omega
    rw [e2, e1]
/-- before, pair by pair -/
def lt2 (x y : List Int) : Prop := x.getD 0 0 < y.getD 0 0 ∨ (x.getD 0 0 = y.getD 0 0 ∧ x.getD 1 0 < y.getD 1 0)
theorem row_asc (m i : Nat) : (row m i).Pairwise lt2 := by
  unfold row
  rw [List.pairwise_map]
  refine List.Pairwise.imp ?_ List.pairwise_lt_range
  intro a b h
  refine .inr ⟨rfl, ?_⟩
  show 0 + (i : Int) + (a : Int) < 0 + (i : Int) + (b : Int)
  omega
theorem upto_asc (m : Nat) : ∀ i, (upto m i).Pairwise lt2
  | 0 => List.Pairwise.nil
  | i + 1 => by
    rw [upto_succ]
    refine List.pairwise_append.mpr ⟨upto_asc m i, row_asc m i, fun x hx y hy => ?_⟩
    unfold upto at hx
    obtain ⟨k, hk, hx⟩ := List.mem_flatMap.mp hx
    have hk := List.mem_range.mp hk
    obtain ⟨j, _, rfl⟩ := mem_row.mp hx
    obtain ⟨j', _, rfl⟩ := mem_row.mp hy
    refine .inl ?_
    show (k : Int) < (i : Int)
    omega
theorem str_asc (m : Nat) : (strL m).Pairwise lt2 := upto_asc m m
theorem kS_inj {x y : List Int} (h : kS x = kS y) : x = y := by
  unfold kS at h
  induction x generalizing y with
  | nil =>
    cases y with
    | nil => rfl
    | cons b y => cases h
  | cons a x ih =>
    cases y with
    | nil => cases h
    | cons b y =>
      rw [List.map_cons, List.map_cons] at h
      injection h with h1 h2
      injection h1 with h1
      rw [h1, ih h2]
theorem val_map (g : List Int → V) (x : List Int) : ∀ S : List (List Int), valV (S.map fun l => (kS l, g l)) (kS x) = if x ∈ S then some (g x) else none
  | [] => rfl
  | l :: S => by
    rw [List.map_cons]
    by_cases e : l = x
    · subst e
      rw [valV_pos rfl, if_pos List.mem_cons_self]
    · rw [valV_neg (fun z => e (kS_inj z)), val_map g x S]
      by_cases h : x ∈ S
      · rw [if_pos h, if_pos (List.mem_cons_of_mem _ h)]
      · rw [if_neg h, if_neg (fun z => by
          rcases List.mem_cons.mp z with z | z
          · exact e z.symm
          · exact h z)]
/-- the reaches of bars -/
def toldL (L : Bs) (m : Nat) : List (List Key × V) := (strL m).map fun l => (kS l, .int (sm L (l.getD 0 0) (l.getD 1 0)))
def InB (L : Bs) (m : Nat) : Prop := ∀ q ∈ L, 0 ≤ q.1 ∧ q.1 ≤ q.2.1 ∧ q.2.1 < (m : Int) ∧ 1 ≤ q.2.2
theorem told_val {L : Bs} {m : Nat} (hL : InB L m) {b e : Int} (h : b ≤ e) : val (toldL L m) b e = sm L b e := by
  have z := val_map (fun l => V.int (sm L (l.getD 0 0) (l.getD 1 0))) [b, e] (strL m)
  unfold val toldL
  have ek : kS [b, e] = [.inl b, .inl e] := rfl
  rw [← ek, z]
  by_cases hm : [b, e] ∈ strL m
  · rw [if_pos hm]
    rfl
  · rw [if_neg hm]
    refine (sm_out fun q hq => ?_).symm
    obtain ⟨h1, h2, h3, _⟩ := hL q hq
    intro hz
    exact hm (mem_str.mpr (by omega))
theorem told_c3 {L : Bs} {m : Nat} (hL : InB L m) {b e : Int} (h : b ≤ e) : c3 (toldL L m) [b, e] = at1 L b e := by
  show cnt (toldL L m) b e = _
  unfold cnt
  rw [told_val hL h, told_val hL (by omega), told_val hL (by omega), told_val hL (by omega), ← sm_diff]
  omega
theorem at1_nonneg {b e : Int} : ∀ {L : Bs}, (∀ q ∈ L, 1 ≤ q.2.2) → 0 ≤ at1 L b e
  | [], _ => Int.le_refl _
  | q :: L, h => by
    have ih := at1_nonneg (b := b) (e := e) (L := L) fun r hr => h r (List.mem_cons_of_mem _ hr)
    have hq := h q List.mem_cons_self
    rw [at1_cons]
    by_cases z : q.1 = b ∧ q.2.1 = e
    · rw [if_pos z]; omega
    · rw [if_neg z]; omega
/-- what is told of reaches of bars -/
theorem out_told {L : Bs} {m : Nat} (hL : InB L m) : outL (toldL L m) (strL m) [] = .inr (((strL m).filter fun l => decide (0 < at1 L (l.getD 0 0) (l.getD 1 0))).map fun l => [l.getD 0 0, l.getD 1 0, at1 L (l.getD 0 0) (l.getD 1 0)]) := by
  have c : ∀ l ∈ strL m, c3 (toldL L m) l = at1 L (l.getD 0 0) (l.getD 1 0) := fun l hl => by
    obtain ⟨b, e, rfl⟩ := upto_pair hl
    exact told_c3 hL (mem_str.mp hl).2.1
  rw [outL_all _ _ fun l hl => by rw [c l hl]; exact at1_nonneg fun q hq => (hL q hq).2.2.2]
  rw [List.nil_append]
  congr 1
  rw [List.filter_congr (q := fun l => decide (0 < at1 L (l.getD 0 0) (l.getD 1 0))) fun l hl => by rw [c l hl]]
  exact List.map_congr_left fun l hl => by rw [c l (List.mem_filter.mp hl).1]
theorem at1_some {b e : Int} {L : Bs} (h : 0 < at1 L b e) : ∃ q ∈ L, q.1 = b ∧ q.2.1 = e := by
  apply Classical.byContradiction
  intro no
  rw [at1_zero fun q hq z => no ⟨q, hq, z⟩] at h
  exact absurd h (by decide)
theorem lt2_irr (x : List Int) : ¬ lt2 x x := fun z => by
  rcases z with z | z <;> omega
theorem lt2_asy (x y : List Int) (h : lt2 x y) : ¬ lt2 y x := fun z => by
  rcases h with h | h <;> rcases z with z | z <;> omega
/-- the bars told are the bars put, ascending -/
theorem put_told {L P : Bs} {m : Nat} (hL : InB L m) (nd : L.Pairwise (fun x y => ¬ (x.1 = y.1 ∧ x.2.1 = y.2.1))) (pp : P.Perm L) (asc : P.Pairwise fun x y => x.1 < y.1 ∨ (x.1 = y.1 ∧ x.2.1 < y.2.1)) :
    outL (toldL L m) (strL m) [] = .inr (P.map fun q => [q.1, q.2.1, q.2.2]) := by
  rw [out_told hL]
  congr 1
  refine asc_one (lt := lt2) lt2_irr lt2_asy ?_ ?_ fun z => ?_
  · rw [List.pairwise_map]
    exact ((str_asc m).sublist List.filter_sublist).imp fun h => h
  · rw [List.pairwise_map]
    exact asc.imp fun h => h
  · rw [List.mem_map, List.mem_map]
    constructor
    · rintro ⟨l, hl, rfl⟩
      obtain ⟨h1, h2⟩ := List.mem_filter.mp hl
      obtain ⟨b, e, rfl⟩ := upto_pair h1
      have h2 : 0 < at1 L b e := of_decide_eq_true h2
      obtain ⟨q, hq, rfl, rfl⟩ := at1_some h2
      refine ⟨q, pp.mem_iff.mpr hq, ?_⟩
      show _ = [q.1, q.2.1, at1 L q.1 q.2.1]
      rw [at1_mem nd hq]
    · rintro ⟨q, hq, rfl⟩
      have hq := pp.mem_iff.mp hq
      obtain ⟨h1, h2, h3, h4⟩ := hL q hq
      have e := at1_mem nd hq
      refine ⟨[q.1, q.2.1], List.mem_filter.mpr ⟨mem_str.mpr ⟨h1, h2, h3⟩, decide_eq_true ?_⟩, ?_⟩
      · show 0 < at1 L q.1 q.2.1
        omega
      · show [q.1, q.2.1, at1 L q.1 q.2.1] = _
        rw [e]
end R36

set_option Elab.async false
set_option linter.all false
set_option maxRecDepth 100000
set_option maxHeartbeats 1000000
set_option pp.maxSteps 60
/-! The dict of bars that are put: its entries as numbers. -/
namespace R36
open PySem L2
def ent (q : Int × Int × Int) : List Key × V := ([.inl q.1, .inl q.2.1], .int q.2.2)
abbrev Unlike (x y : Int × Int × Int) : Prop := ¬ (x.1 = y.1 ∧ x.2.1 = y.2.1)
theorem ent_key {q : Int × Int × Int} {b e : Int} : (ent q).1 = [.inl b, .inl e] ↔ q.1 = b ∧ q.2.1 = e := by
  unfold ent
  constructor
  · intro h
    injection h with h1 h2
    injection h1 with h1
    injection h2 with h2 _
    injection h2 with h2
    exact ⟨h1, h2⟩
  · rintro ⟨rfl, rfl⟩
    rfl
def put1 (L : Bs) (b e n : Int) : Bs := if (L.any fun q => decide (q.1 = b ∧ q.2.1 = e)) = true then L.map fun q => if q.1 = b ∧ q.2.1 = e then (b, e, n) else q else L ++ [(b, e, n)]
theorem putK_ent (L : Bs) (b e n : Int) : putK (L.map ent) [.inl b, .inl e] (.int n) = (put1 L b e n).map ent := by
  have h : ((L.map ent).any fun kv => decide (kv.1 = [.inl b, .inl e])) = L.any fun q => decide (q.1 = b ∧ q.2.1 = e) := by
    rw [List.any_map]
    congr 1
    funext q
    exact decide_eq_decide.mpr ent_key
  unfold putK put1
  rw [h]
  by_cases c : (L.any fun q => decide (q.1 = b ∧ q.2.1 = e)) = true
  · rw [if_pos c, if_pos c, List.map_map, List.map_map]
    refine List.map_congr_left fun q _ => ?_
    show (if (ent q).1 = [.inl b, .inl e] then ((ent q).1, V.int n) else ent q) = ent (if q.1 = b ∧ q.2.1 = e then (b, e, n) else q)
    by_cases k : q.1 = b ∧ q.2.1 = e
    · rw [if_pos (ent_key.mpr k), if_pos k, ent_key.mpr k]
      rfl
    · rw [if_neg (fun z => k (ent_key.mp z)), if_neg k]
  · rw [if_neg c, if_neg c, List.map_append]
    rfl
theorem put1_in {L : Bs} {m : Nat} {b e n : Int} (h : InB L m) (h0 : 0 ≤ b) (h1 : b ≤ e) (h2 : e < (m : Int)) (h3 : 1 ≤ n) : InB (put1 L b e n) m := by
  unfold put1
  by_cases c : (L.any fun q => decide (q.1 = b ∧ q.2.1 = e)) = true
  · rw [if_pos c]
    intro q hq
    obtain ⟨r, hr, rfl⟩ := List.mem_map.mp hq
    by_cases k : r.1 = b ∧ r.2.1 = e
    · rw [if_pos k]
      exact ⟨h0, h1, h2, h3⟩
    · rw [if_neg k]
      exact h r hr
  · rw [if_neg c]
    intro q hq
    rcases List.mem_append.mp hq with z | z
    · exact h q z
    · rw [List.mem_singleton.mp z]
      exact ⟨h0, h1, h2, h3⟩
theorem put1_len (L : Bs) (b e n : Int) : (put1 L b e n).length ≤ L.length + 1 := by
  unfold put1
  by_cases c : (L.any fun q => decide (q.1 = b ∧ q.2.1 = e)) = true
  · rw [if_pos c, List.length_map]; omega
  · rw [if_neg c, List.length_append]; exact Nat.le_refl _
theorem put1_nd {L : Bs} (b e n : Int) (h : L.Pairwise Unlike) : (put1 L b e n).Pairwise Unlike := by
  unfold put1
  by_cases c : (L.any fun q => decide (q.1 = b ∧ q.2.1 = e)) = true
  · rw [if_pos c, List.pairwise_map]
    have key : ∀ q : Int × Int × Int, (if q.1 = b ∧ q.2.1 = e then (b, e, n) else q).1 = q.1 ∧ (if q.1 = b ∧ q.2.1 = e then (b, e, n) else q).2.1 = q.2.1 := fun q => by
      by_cases k : q.1 = b ∧ q.2.1 = e
      · rw [if_pos k]; exact ⟨k.1.symm, k.2.symm⟩
      · rw [if_neg k]; exact ⟨rfl, rfl⟩
    refine h.imp fun {x y} hxy z => hxy ?_
    rw [(key x).1, (key y).1, (key x).2, (key y).2] at z
    exact z
  · rw [if_neg c]
    refine List.pairwise_append.mpr ⟨h, List.pairwise_singleton _ _, fun x hx y hy z => ?_⟩
    rw [List.mem_singleton.mp hy] at z
    exact c (List.any_eq_true.mpr ⟨x, hx, decide_eq_true z⟩)
/-- what stands at a pair: the number put, or nothing -/
theorem val_ent {b e : Int} : ∀ {L : Bs}, L.Pairwise Unlike → valV (L.map ent) [.inl b, .inl e] = if (L.any fun q => decide (q.1 = b ∧ q.2.1 = e)) = true then some (.int (at1 L b e)) else none
  | [], _ => rfl
  | q :: L, nd => by
    have nd' := List.pairwise_cons.mp nd
    rw [List.map_cons, List.any_cons]
    by_cases k : q.1 = b ∧ q.2.1 = e
    · rw [valV_pos (ent_key.mpr k), decide_eq_true k, Bool.true_or, if_pos rfl, at1_cons, if_pos k, at1_zero fun r hr z => nd'.1 r hr ⟨k.1.trans z.1.symm, k.2.trans z.2.symm⟩, Int.add_zero]
      rfl
    · rw [valV_neg (fun z => k (ent_key.mp z)), decide_eq_false k, Bool.false_or, at1_cons, if_neg k, Int.zero_add]
      exact val_ent nd'.2
theorem nodup_ent {L : Bs} (h : L.Pairwise Unlike) : ((L.map ent).map (·.1)).Nodup := by
  rw [List.map_map]
  refine List.pairwise_map.mpr (h.imp fun {x y} hxy z => hxy ?_)
  have z : (ent x).1 = [.inl y.1, .inl y.2.1] := z
  exact ent_key.mp z
end R36

set_option Elab.async false
set_option linter.all false
set_option maxRecDepth 100000
set_option maxHeartbeats 1000000
set_option pp.maxSteps 60
/-! Dicts whose keys are all stretches, in their order. -/
namespace R36
open PySem L2
/-- the keys are all stretches, the values numbers -/
def Keyed (kvs : List (List Key × V)) (m : Nat) : Prop := kvs.map (·.1) = (strL m).map kS ∧ ∀ kv ∈ kvs, ∃ i : Int, 0 ≤ i ∧ kv.2 = .int i
theorem val_of_key {k : List Key} : ∀ {kvs : List (List Key × V)}, k ∈ kvs.map (·.1) → ∃ v, valV kvs k = some v ∧ ∃ kv ∈ kvs, kv.2 = v
  | [], h => by cases h
  | kv :: r, h => by
    by_cases e : kv.1 = k
    · exact ⟨kv.2, valV_pos e, kv, List.mem_cons_self, rfl⟩
    · rw [List.map_cons] at h
      rcases List.mem_cons.mp h with z | z
      · exact absurd z.symm e
      · obtain ⟨v, h1, x, hx, h2⟩ := val_of_key z
        exact ⟨v, by rw [valV_neg e]; exact h1, x, List.mem_cons_of_mem _ hx, h2⟩
theorem Keyed.len {kvs : List (List Key × V)} {m : Nat} (h : Keyed kvs m) : kvs.length = (strL m).length := by
  have := congrArg List.length h.1
  rwa [List.length_map, List.length_map] at this
theorem Keyed.good {kvs : List (List Key × V)} {m : Nat} (h : Keyed kvs m) : GoodR kvs m := by
  refine ⟨h.len, fun l hl => ?_⟩
  obtain ⟨v, h1, kv, hk, e⟩ := val_of_key (k := kS l) (kvs := kvs) (by rw [h.1]; exact List.mem_map.mpr ⟨l, hl, rfl⟩)
  obtain ⟨i, h0, ei⟩ := h.2 kv hk
  exact ⟨i, h0, by rw [h1, ← e, ei]⟩
theorem Keyed.allI {kvs : List (List Key × V)} {m : Nat} (h : Keyed kvs m) : AllI kvs := fun kv hk => let ⟨i, _, e⟩ := h.2 kv hk; ⟨i, e⟩
theorem str_nodup (m : Nat) : ((strL m).map kS).Nodup := by
  refine List.pairwise_map.mpr ((str_asc m).imp fun {x y} h z => ?_)
  rw [kS_inj z] at h
  exact lt2_irr _ h
theorem Keyed.nodup {kvs : List (List Key × V)} {m : Nat} (h : Keyed kvs m) : (kvs.map (·.1)).Nodup := by rw [h.1]; exact str_nodup m
/-- each entry is a pair of ints and an int -/
theorem Keyed.ints {kvs : List (List Key × V)} {m : Nat} (h : Keyed kvs m) : ∀ kv ∈ kvs, ∃ b e d : Int, kv = ([.inl b, .inl e], .int d) := by
  intro kv hk
  obtain ⟨i, _, e⟩ := h.2 kv hk
  have z : kv.1 ∈ (strL m).map kS := by rw [← h.1]; exact List.mem_map.mpr ⟨kv, hk, rfl⟩
  obtain ⟨l, hl, el⟩ := List.mem_map.mp z
  obtain ⟨b, e', rfl⟩ := upto_pair hl
  exact ⟨b, e', i, Prod.ext el.symm e⟩
theorem any_key {kvs : List (List Key × V)} {k : List Key} : (kvs.any fun kv => decide (kv.1 = k)) = true ↔ k ∈ kvs.map (·.1) := by
  rw [List.any_eq_true, List.mem_map]
  constructor
  · rintro ⟨x, hx, e⟩
    exact ⟨x, hx, of_decide_eq_true e⟩
  · rintro ⟨x, hx, e⟩
    exact ⟨x, hx, decide_eq_true e⟩
/-- another number at a stretch -/
theorem Keyed.put {kvs : List (List Key × V)} {m : Nat} (h : Keyed kvs m) {l : List Int} (hl : l ∈ strL m) {i : Int} (h0 : 0 ≤ i) : Keyed (putK kvs (kS l) (.int i)) m := by
  have hk : kS l ∈ kvs.map (·.1) := by rw [h.1]; exact List.mem_map.mpr ⟨l, hl, rfl⟩
  unfold putK
  rw [if_pos (any_key.mpr hk)]
  refine ⟨?_, fun kv hkv => ?_⟩
  · rw [← h.1, List.map_map]
    refine List.map_congr_left fun kv _ => ?_
    show (if kv.1 = kS l then (kv.1, V.int i) else kv).1 = kv.1
    by_cases e : kv.1 = kS l
    · rw [if_pos e]
    · rw [if_neg e]
  · obtain ⟨x, hx, rfl⟩ := List.mem_map.mp hkv
    by_cases e : x.1 = kS l
    · rw [if_pos e]
      exact ⟨i, h0, rfl⟩
    · rw [if_neg e]
      exact h.2 x hx
theorem putK_new {kvs : List (List Key × V)} {k : List Key} {v : V} (h : k ∉ kvs.map (·.1)) : putK kvs k v = kvs ++ [(k, v)] := by
  unfold putK
  rw [if_neg fun z => h (any_key.mp z)]
/-- stretch by stretch -/
theorem put_take (g : List Int → V) {m i : Nat} {l : List Int} (h : (strL m)[i]? = some l) :
    putK (((strL m).take i).map fun l => (kS l, g l)) (kS l) (g l) = ((strL m).take (i + 1)).map fun l => (kS l, g l) := by
  rw [putK_new, List.take_succ, h, List.map_append]
  · rfl
  · intro z
    rw [List.map_map] at z
    obtain ⟨x, hx, e⟩ := List.mem_map.mp z
    have e' : kS x = kS l := e
    have ex := kS_inj e'
    subst ex
    have asc := str_asc m
    have lt := (List.getElem?_eq_some_iff.mp h)
    obtain ⟨hi, hg⟩ := lt
    obtain ⟨j, hj⟩ := List.mem_iff_getElem?.mp hx
    obtain ⟨hj1, hj2⟩ := List.getElem?_eq_some_iff.mp hj
    rw [List.length_take] at hj1
    rw [List.getElem_take] at hj2
    have hlt := List.pairwise_iff_getElem.mp asc j i (by omega) hi (by omega)
    rw [hj2, hg] at hlt
    exact lt2_irr _ hlt
theorem sm_nonneg {L : Bs} {b e : Int} (h : ∀ q ∈ L, 1 ≤ q.2.2) : 0 ≤ sm L b e := by
  induction L with
  | nil => exact Int.le_refl _
  | cons q L ih =>
    have h1 := h q List.mem_cons_self
    have h2 := ih fun r hr => h r (List.mem_cons_of_mem _ hr)
    rw [sm_cons]
    by_cases z : q.1 ≤ b ∧ e ≤ q.2.1
    · rw [if_pos z]; omega
    · rw [if_neg z]; omega
theorem told_keyed {L : Bs} {m : Nat} (h : InB L m) : Keyed (toldL L m) m := by
  unfold toldL
  refine ⟨by rw [List.map_map]; rfl, fun kv hk => ?_⟩
  obtain ⟨l, _, rfl⟩ := List.mem_map.mp hk
  exact ⟨_, sm_nonneg fun q hq => (h q hq).2.2.2, rfl⟩
end R36

set_option Elab.async false
set_option linter.all false
set_option maxRecDepth 100000
set_option maxHeartbeats 4000000
set_option pp.maxSteps 60
/-! Reaches told: what the law draws. -/
namespace R36
open PySem L2
abbrev sTold : Stmt := top 23
theorem pot_refs {H : Hp} {a l : Addr} {as : List Addr} (p : PotAt H a) (h : H l = some (.lst (as.map V.ref))) : l ≠ a := by
  obtain ⟨c, ns, i, z, s, n, h1, _⟩ := p
  intro e
  rw [e, h1] at h
  injection h with h
  injection h with h
  match as, h with
  | x :: y :: r, h =>
    injection h with _ h
    injection h with h _
    cases h
/-- a stretch drawn -/
theorem drawn {H H' : Hp} {a : Addr} {as : List Addr} {m : Nat} {x : V} (p : PotAt H a) (pt : PT2 H as (strL m)) (hx : x ∈ as.map V.ref) (g : Go a H H') : ∃ (b : Addr) (l : List Int), x = .ref b ∧ l ∈ strL m ∧ H' b = some (.tup (l.map V.int)) := by
  obtain ⟨b, hb, rfl⟩ := List.mem_map.mp hx
  obtain ⟨i, hi⟩ := List.mem_iff_getElem?.mp hb
  obtain ⟨l, hl, h⟩ := pt.get hi
  exact ⟨b, l, rfl, List.mem_of_getElem? hl, g.tup p h⟩
theorem str_ne {m : Nat} {S : Hp} {as : List Addr} (h : 1 ≤ m) (pt : PT2 S as (strL m)) : as.map V.ref ≠ [] := by
  intro e
  have h1 := congrArg List.length e
  rw [List.length_map, PT2.len pt] at h1
  have := str_pos h
  rw [List.length_nil] at h1
  omega
theorem str_le {m : Nat} {S : Hp} {as : List Addr} (h : m ≤ 8) (pt : PT2 S as (strL m)) : (as.map V.ref).length ≤ 64 := by
  rw [List.length_map, PT2.len pt]
  exact str_len h
theorem go_none {a e : Addr} {H H' : Hp} (g : Go a H H') (h : H' e = none) : H e = none := by
  cases q : H e with
  | none => rfl
  | some o =>
    by_cases z : e = a
    · obtain ⟨c, ns, i, z', s, n, h1, _⟩ := g.1
      rw [z, h1] at h
      cases h
    · rw [g.2 _ _ z q] at h
      cases h
theorem val_ent_nn {L : Bs} {m : Nat} (inb : InB L m) (nd : L.Pairwise Unlike) (b e : Int) : 0 ≤ val (L.map ent) b e := by
  unfold val
  rw [val_ent nd]
  by_cases c : (L.any fun q => decide (q.1 = b ∧ q.2.1 = e)) = true
  · rw [if_pos c]
    exact at1_nonneg fun q hq => (inb q hq).2.2.2
  · rw [if_neg c]
    exact Int.le_refl _
theorem ent_ints (L : Bs) : AllI (L.map ent) := fun kv hk => by
  obtain ⟨q, _, rfl⟩ := List.mem_map.mp hk
  exact ⟨_, rfl⟩
theorem lst_dT {H : Hp} {f b : Addr} {xs : List V} {kvs : List (List Key × V)} (hf : H f = some (.lst xs)) (hb : H b = some (.dT kvs)) : b ≠ f := fun e => by
  rw [e, hf] at hb
  cases hb
theorem tup_dT {H : Hp} {f b : Addr} {xs : List V} {kvs : List (List Key × V)} (hf : H f = some (.dT kvs)) (hb : H b = some (.tup xs)) : b ≠ f := fun e => by
  rw [e, hf] at hb
  cases hb
theorem gens {x : V} (h : x ∈ ([.int 1, .int 1, .int 2, .int (10 ^ 9)] : List V)) : ∃ q : Int, x = .int q ∧ 1 ≤ q := by
  simp only [List.mem_cons, List.not_mem_nil, or_false] at h
  rcases h with rfl | rfl | rfl | rfl
  · exact ⟨_, rfl, by decide⟩
  · exact ⟨_, rfl, by decide⟩
  · exact ⟨_, rfl, by decide⟩
  · exact ⟨_, rfl, by decide⟩
theorem sum_app (ns : List Int) (n : Int) : (ns ++ [n]).sum = ns.sum + n := by
  induction ns with
  | nil => simp
  | cons a r ih => rw [List.cons_append, List.sum_cons, List.sum_cons, ih]; omega
def selN (L : Bs) (b e : Int) : List Int := (L.filter fun q => decide (q.1 ≤ b) && decide (e ≤ q.2.1)).map (·.2.2)
theorem selN_sum (b e : Int) : ∀ L : Bs, (selN L b e).sum = sm L b e
  | [] => rfl
  | q :: L => by
    have ih := selN_sum b e L
    unfold selN at ih ⊢
    rw [sm_cons, List.filter_cons]
    by_cases h1 : q.1 ≤ b
    · by_cases h2 : e ≤ q.2.1
      · rw [if_pos (by rw [decide_eq_true h1, decide_eq_true h2]; rfl), if_pos ⟨h1, h2⟩, List.map_cons, List.sum_cons, ih]
      · rw [if_neg (by rw [decide_eq_false h2, Bool.and_false]; exact Bool.false_ne_true), if_neg (fun z => h2 z.2), ih, Int.zero_add]
    · rw [if_neg (by rw [decide_eq_false h1, Bool.false_and]; exact Bool.false_ne_true), if_neg (fun z => h1 z.1), ih, Int.zero_add]
theorem selN_take {L : Bs} {j : Nat} {q : Int × Int × Int} (h : L[j]? = some q) (b e : Int) : selN (L.take (j + 1)) b e = selN (L.take j) b e ++ (if (decide (q.1 ≤ b) && decide (e ≤ q.2.1)) = true then [q.2.2] else []) := by
  unfold selN
  rw [List.take_succ, h, List.filter_append, List.map_append]
  congr 1
  show List.map _ (List.filter _ [q]) = _
  rw [List.filter_cons]
  by_cases c : (decide (q.1 ≤ b) && decide (e ≤ q.2.1)) = true
  · rw [if_pos c, if_pos c]; rfl
  · rw [if_neg c, if_neg c]; rfl
theorem selN_len (L : Bs) (b e : Int) : (selN L b e).length ≤ L.length := by
  unfold selN
  rw [List.length_map]
  exact List.length_filter_le _ _
theorem ent_val {L : Bs} (nd : L.Pairwise Unlike) {q : Int × Int × Int} (h : q ∈ L) : valV (L.map ent) [.inl q.1, .inl q.2.1] = some (.int q.2.2) := by
  rw [val_ent nd, if_pos (List.any_eq_true.mpr ⟨q, h, decide_eq_true ⟨rfl, rfl⟩⟩), at1_mem nd h]
/-- the keys' places, by their entries -/
theorem keys_ent {H : Hp} : ∀ {L : Bs} {bs : List Addr}, IsKeys H (L.map ent) bs → (bs.map (pairK H) = L.map fun q => (q.1, q.2.1)) ∧ ∀ b ∈ bs, ∃ q ∈ L, H b = some (.tup [.int q.1, .int q.2.1])
  | [], [], _ => ⟨rfl, fun b h => nomatch h⟩
  | q :: L, b :: bs, h => by
    unfold IsKeys at h
    cases h with
    | cons h1 h2 =>
      obtain ⟨e, f⟩ := keys_ent (L := L) (bs := bs) h2
      have h1' : H b = some (.tup [.int q.1, .int q.2.1]) := h1
      refine ⟨?_, fun c hc => ?_⟩
      · rw [List.map_cons, List.map_cons, e]
        congr 1
        unfold pairK
        rw [h1']
      · rcases List.mem_cons.mp hc with rfl | hc
        · exact ⟨q, List.mem_cons_self, h1'⟩
        · obtain ⟨q', hq, z⟩ := f c hc
          exact ⟨q', List.mem_cons_of_mem _ hq, z⟩
  | [], b :: bs, h => by unfold IsKeys at h; cases h
  | q :: L, [], h => by unfold IsKeys at h; cases h
/-- the bars by ascending keys -/
def barsOf (H : Hp) (L : Bs) (ys : List Addr) : Bs := ys.map fun y => ((pairK H y).1, (pairK H y).2, at1 L (pairK H y).1 (pairK H y).2)
theorem barsOf_perm {H : Hp} {L : Bs} {bs ys : List Addr} (nd : L.Pairwise Unlike) (ik : IsKeys H (L.map ent) bs) (pm : ys.Perm bs) : (barsOf H L ys).Perm L := by
  have h1 : (barsOf H L ys).Perm (barsOf H L bs) := pm.map _
  have h2 : barsOf H L bs = L := by
    have e := (keys_ent ik).1
    have e2 : barsOf H L bs = (bs.map (pairK H)).map fun k => (k.1, k.2, at1 L k.1 k.2) := by
      unfold barsOf
      rw [List.map_map]
      rfl
    rw [e2, e, List.map_map]
    refine (List.map_congr_left fun q hq => ?_).trans (List.map_id _)
    show (q.1, q.2.1, at1 L q.1 q.2.1) = q
    rw [at1_mem nd hq]
  rw [h2] at h1
  exact h1
theorem barsOf_asc {H : Hp} {L : Bs} {bs ys : List Addr} (nd : L.Pairwise Unlike) (ik : IsKeys H (L.map ent) bs) (pm : ys.Perm bs) (asc : ys.Pairwise fun x y => SrtO.lexB (pairK H y) (pairK H x) = false) :
    (barsOf H L ys).Pairwise fun x y => x.1 < y.1 ∨ (x.1 = y.1 ∧ x.2.1 < y.2.1) := by
  have un : (barsOf H L ys).Pairwise Unlike := (barsOf_perm nd ik pm).symm.pairwise nd fun {x y} h z => h ⟨z.1.symm, z.2.symm⟩
  unfold barsOf at un ⊢
  rw [List.pairwise_map] at un ⊢
  refine (asc.and un).imp fun {x y} ⟨h1, h2⟩ => ?_
  have h2 : ¬ ((pairK H x).1 = (pairK H y).1 ∧ (pairK H x).2 = (pairK H y).2) := h2
  show (pairK H x).1 < (pairK H y).1 ∨ ((pairK H x).1 = (pairK H y).1 ∧ (pairK H x).2 < (pairK H y).2)
  unfold SrtO.lexB at h1
  by_cases e : (pairK H y).1 = (pairK H x).1
  · rw [if_pos e] at h1
    have := of_decide_eq_false h1
    omega
  · rw [if_neg e] at h1
    have := of_decide_eq_false h1
    omega
structure DictC (mg : Str → Option Value) : Prop where
  dict : mg "dict" = none
  sum : mg "sum" = none
def spTold : Sp := fun vs H Q _ => ∃ (a : Addr) (m : Nat), vs = [.ref a, .int (m : Int)] ∧ PotAt H a ∧ 1 ≤ m ∧ m ≤ 8 ∧ ∀ (r p : Addr) (kvs : List (List Key × V)) (y : V) (H' : Hp), Go a H H' → H' r = some (.tup [.ref p, y]) → H' p = some (.dT kvs) → Keyed kvs m →
  (y = .non ∨ ∃ (q : Addr) (as : List Addr) (Z : List (List Int)), y = .ref q ∧ H' q = some (.tup (as.map V.ref)) ∧ PT2 H' as Z ∧ outL kvs (strL m) [] = .inr Z) → Q (.ref r) H'
section
variable {P : Program} {w : World} {K : PySem.W.Frag} {mg : Str → Option Value} {base : Heap}
abbrev toldN : List Str := ["purse", "many", "way", "pair", "put", "bar", "told", "begin", "end", "turn"]
theorem scTold : FnScope toldN ["purse", "many"] (defScope sTold) := ⟨rfl, rfl, rfl, by decide +kernel, rfl, by decide +kernel, by decide +kernel⟩
theorem ok_told {f : Addr} {fd : FuncData} (F : L2.Fun K "_law_told" "_law_told" sTold f fd) (T : Gb mg) (M : DictC mg) (cD : Cal P w K mg base 1 "_law_part" spDraw []) (cA : Cal P w K mg base 2 "_law_one" spAny []) (cS : Cal P w K mg base 2 "_law_stretches" spStr []) : FnOk P w K mg base CX0 3 f fd ["purse", "many"] spTold := by
  refine F.ok scTold (fun vs H Q E h => ?_) (fun cdv A outer s H vs Q E hr h => ?_)
  · obtain ⟨a, m, rfl, _⟩ := h
    rfl
  · obtain ⟨a, m, rfl, pot, m1, m8, k⟩ := h
    have hu1 := Nat.lt_of_le_of_lt (Nat.add_le_add_left (show 1 ≤ 64 by decide) _) hr.units
    have hu2 := Nat.lt_of_le_of_lt (Nat.add_le_add_left (show 2 ≤ 64 by decide) _) hr.units
    refine ⟨_, pss_cons (ps_set (i := 2) scTold.nd rfl (Or.inl rfl) (C8.pe_c cD hr (by decide) (by rfl) (pa_cons (pv 0) (pa_cons pe_int pa_nil))))
      (C8.pss_cut (ps_if (pt_cmpR op_eq (pv 2) pe_int (nomark _)) (pss_one (ps_ret (pe_tup (pa_cons (pe_callTy (call_dictPT rfl hu2) (by rfl) M.dict (by decide +kernel) (pa_cons (pe_lc (own := [("pair", 3)]) (g := gName 3) (tt := tYes) rfl scTold.nd (pi_list (C8.pe_c cS hr (by decide) (by rfl) (pa_cons (pv 1) pa_nil))) (blkOk_by (N := toldN) (sc := defScope sTold) (by decide +kernel)) (fun _ _ _ _ _ => (pg_name (i := 3) scTold.nd rfl (Or.inl rfl))) (fun _ _ _ _ _ => pts_nil) (fun _ _ _ _ _ => (pe_tup (pa_cons (pv 3) (pa_cons (C8.pe_c cD hr (by decide) (by rfl) (pa_cons (pv 0) (pa_cons pe_int pa_nil))) pa_nil))))) pa_nil)) (pa_cons pe_non pa_nil))))) pss_nil)
      (pss_cons (ps_set (i := 4) scTold.nd rfl (Or.inr rfl) pe_dnewT)
      (C8.pss_cut (ps_for PassesOwn.never rfl (pi_range1 (by rfl) T.rng (pa_cons (C8.pe_c cD hr (by decide) (by rfl) (pa_cons (pv 0) (pa_cons pe_int pa_nil))) pa_nil)) (pg_name (i := 5) scTold.nd rfl (Or.inl rfl))
      (pss_cons (ps_set (i := 3) scTold.nd rfl (Or.inl rfl) (C8.pe_c cA hr (by decide) (by rfl) (pa_cons (pv 0) (pa_cons (C8.pe_c cS hr (by decide) (by rfl) (pa_cons (pv 1) pa_nil)) pa_nil))))
      (pss_one (ps_dput hu1 (pv 4) (pv 3) (pe_op op_add (pe_dget2 hu1 (pv 4) (pv 3) pe_int ⟨rfl, rfl, rfl, rfl⟩) (C8.pe_c cA hr (by decide) (by rfl) (pa_cons (pv 0) (pa_cons (pe_lst (pa_cons pe_int (pa_cons pe_int (pa_cons pe_int (pa_cons (pe_op op_pow pe_int pe_int) pa_nil))))) pa_nil)))) rfl))))
      (pss_cons (ps_set (i := 6) scTold.nd rfl (Or.inl rfl) pe_dnewT)
      (C8.pss_cut (ps_for PassesOwn.never rfl (pi_list (C8.pe_c cS hr (by decide) (by rfl) (pa_cons (pv 1) pa_nil))) (pg_tup rfl (pgs_cons (pg_name (i := 7) scTold.nd rfl (Or.inr rfl)) (pgs_cons (pg_name (i := 8) scTold.nd rfl (Or.inr rfl)) pgs_nil)))
      (pss_one (ps_dput hu1 (pv 6) (pe_tup (pa_cons (pv 7) (pa_cons (pv 8) pa_nil))) (pe_callB (cr_sum rfl) (by rfl) M.sum (by decide +kernel) (pa_cons (pe_lock (pe_lc (own := [("pair", 3)]) (g := gName 3) rfl scTold.nd (pi_keys (pv 4)) (blkOk_by (N := toldN) (sc := defScope sTold) (by decide +kernel)) (fun _ _ _ _ _ => (pg_name (i := 3) scTold.nd rfl (Or.inl rfl))) (fun _ _ _ _ _ => (pts_one (PW.pt (pw_and (pt_cmpR op_le (pe_ix (r := rIxT K) ix_tup (pv 3) pe_int (fun _ _ => rfl)) (pv 7) (nomark _)) (pw_and1 (pt_cmpR op_le (pv 8) (pe_ix (r := rIxT K) ix_tup (pv 3) pe_int (fun _ _ => rfl)) (nomark _))))))) (fun _ _ _ _ _ => (pe_dget hu1 (pv 4) (pv 3) (fun _ _ => rfl))))) pa_nil)) rfl)))
      (C8.pss_cut (ps_if (pt_cmpR op_eq (pv 2) pe_int (nomark _)) (pss_one (ps_ret (pe_tup (pa_cons (pv 6) (pa_cons (pe_callTy call_tuple_of (by rfl) T.tup (by decide +kernel) (pa_cons (pe_lc (own := [("begin", 7), ("end", 8)]) (g := gTup K 2 (gCons (gName 7) (gCons (gName 8) gNil))) (tt := tYes) rfl scTold.nd (pi_list (pe_callB (cr_sortedDT rfl) (by rfl) T.sorted (by decide +kernel) (pa_cons (pv 4) pa_nil))) (blkOk_by (N := toldN) (sc := defScope sTold) (by decide +kernel)) (fun _ _ _ _ _ => (pg_tup rfl (pgs_cons (pg_name (i := 7) scTold.nd rfl (Or.inl rfl)) (pgs_cons (pg_name (i := 8) scTold.nd rfl (Or.inl rfl)) pgs_nil)))) (fun _ _ _ _ _ => pts_nil) (fun _ _ _ _ _ => (pe_tup (pa_cons (pv 7) (pa_cons (pv 8) (pa_cons (pe_dget hu1 (pv 4) (pe_tup (pa_cons (pv 7) (pa_cons (pv 8) pa_nil))) (fun _ _ => rfl)) pa_nil)))))) pa_nil)) pa_nil))))) pss_nil)
      (pss_cons (ps_for PassesOwn.never rfl (pi_range1 (by rfl) T.rng (pa_cons (pe_op op_sub (pv 2) pe_int) pa_nil)) (pg_name (i := 9) scTold.nd rfl (Or.inl rfl))
      (pss_one (ps_dput hu1 (pv 6) (C8.pe_c cA hr (by decide) (by rfl) (pa_cons (pv 0) (pa_cons (C8.pe_c cS hr (by decide) (by rfl) (pa_cons (pv 1) pa_nil)) pa_nil))) (C8.pe_c cD hr (by decide) (by rfl) (pa_cons (pv 0) (pa_cons pe_int pa_nil))) rfl)))
      (pss_one (ps_ret (pe_tup (pa_cons (pv 6) (pa_cons pe_non pa_nil)))))))))))), ?_⟩
    refine ⟨_, rfl, a, 4, rfl, pot, by decide, by decide, fun way H1 w0 w4 g1 => ?_⟩
    refine ⟨fun σ' H' => σ' = [some (.ref a), some (.int (m : Int)), some (.int way), Option.none, Option.none, Option.none, Option.none, Option.none, Option.none, Option.none] ∧ H' = H1 ∧ way ≠ 0, ?_, ?_⟩
    · refine ⟨_, rfl, rfl, _, rfl, ?_⟩
      refine ite2 (fun q => ?_) (fun q => ⟨rfl, rfl, fun e => q (by rw [e]; rfl)⟩)
      refine ⟨_, rfl, m, rfl, m8, fun l as H2 e2 hl pt => ⟨l, rfl, ⟨_, SqL.of hl⟩, fun D nD => ?_⟩⟩
      have g2 : Go a H1 H2 := Go.of_ext g1.1 e2
      have nl := pot_refs g2.1 hl
      have l64 := str_le m8 pt
      refine lc_list (K := K) (a := l) (xs := as.map V.ref) (fun j H3 => Go a H2 H3 ∧ ∃ (ts : List Addr) (kvs : List (List Key × V)), H3 D = some (.lst (ts.map V.ref)) ∧ Paired (fun t kv => ∃ b, H3 t = some (.tup [.ref b, kv.2]) ∧ H3 b = some (.tup (kv.1.map kV))) ts kvs ∧
        kvs.map (·.1) = ((strL m).take j).map kS ∧ ∀ kv ∈ kvs, ∃ i : Int, 0 ≤ i ∧ kv.2 = .int i) ⟨Go.new g2.1 nD, [], [], upd_same, .nil, rfl, fun kv h => nomatch h⟩ (fun j H3 _ z => SqL.of (z.1.2 _ _ nl hl)) ?_ ?_
      · rintro j y H3 hy ⟨g3, ts, kvs, hD, pr, ek, iv⟩
        rw [List.getElem?_map] at hy
        cases hj : as[j]? with
        | none => rw [hj] at hy; cases hy
        | some b =>
          rw [hj] at hy
          cases hy
          obtain ⟨u, hu, hb⟩ := pt.get hj
          have lj := (List.getElem?_eq_some_iff.mp hj).1
          have lt : ts.length ≤ 64 := by
            rw [Paired.length pr]
            have := congrArg List.length ek
            rw [List.length_map, List.length_map, List.length_take] at this
            rw [List.length_map] at l64
            omega
          refine ⟨rfl, tyes_in ⟨_, rfl, _, rfl, a, 3, rfl, g3.1, by decide, by decide, fun n H4 n0 n3 g4 => ⟨by show 2 ≤ sizeLine; decide, fun t nt => ?_⟩⟩⟩
          have nDa : D ≠ a := (g2.1.ne nD).symm
          have hD4 := g4.2 _ _ nDa hD
          have hD5 := Ext.upd (o := .tup [.ref b, .int n]) nt _ _ hD4
          have kp : ∀ c xs, H3 c = some (.tup xs) → (upd (upd H4 t (.tup [.ref b, .int n])) D (.lst (ts.map V.ref ++ [.ref t]))) c = some (.tup xs) := fun c xs z => by
            have z4 := Ext.upd (o := .tup [.ref b, .int n]) nt _ _ (g4.tup g3.1 z)
            rw [upd_ne (lst_ne hD5 z4)]
            exact z4
          refine ⟨_, hD5, small1000 (by rw [List.length_map]; omega), Go.put g2.1 ((g3.trans g4).trans (Go.new g4.1 nt)) nD, ts ++ [t], kvs ++ [(kS u, .int n)], ?_, ?_, ?_, ?_⟩
          · rw [upd_same, List.map_append]
            rfl
          · refine Paired.snoc (Paired.imp' (fun t' kv z => let ⟨b', z1, z2⟩ := z; ⟨b', kp _ _ z1, kp _ _ z2⟩) pr) ⟨b, ?_, ?_⟩
            · rw [upd_ne (ne_of_none hD4 nt).symm, upd_same]
            · have := kp b _ (g3.tup g2.1 hb)
              rw [kS_vals]
              exact this
          · rw [List.map_append, ek, List.take_succ, hu, List.map_append]
            rfl
          · intro kv hk
            rcases List.mem_append.mp hk with z | z
            · exact iv kv z
            · rw [List.mem_singleton.mp z]
              exact ⟨n, n0, rfl⟩
      · rintro H3 ⟨g3, ts, kvs, hD, pr, ek, iv⟩
        rw [List.length_map, PT2.len pt, List.take_of_length_le (Nat.le_refl _)] at ek
        refine ⟨D, ts, kvs, rfl, SqL.of hD, pr, by rw [ek]; exact str_nodup m, fun p np => ⟨by show 2 ≤ sizeLine; decide, fun r nr => ?_⟩⟩
        have g4 := ((g1.trans g2).trans g3).trans (Go.new (o := .dT kvs) g3.1 np)
        exact k r p kvs .non _ (g4.trans (Go.new g4.1 nr)) upd_same (Ext.upd nr _ _ upd_same) ⟨ek, iv⟩ (.inl rfl)
    · rintro σ' H' ⟨rfl, rfl, wne⟩
      refine fun d nd => ?_
      refine ⟨fun σ' H3 => ∃ (v3 v5 : Option V) (L : Bs), σ' = [some (.ref a), some (.int (m : Int)), some (.int way), v3, some (.ref d), v5, Option.none, Option.none, Option.none, Option.none] ∧ Go a H' H3 ∧ H3 d = some (.dT (L.map ent)) ∧ InB L m ∧ L.Pairwise Unlike ∧ L.length ≤ 8, ?_, ?_⟩
      · refine ⟨_, rfl, a, 8, rfl, g1.1.upd nd, by decide, by decide, fun n H2 n0 n8 g2 => ⟨n, rfl, by omega, by omega, ?_⟩⟩
        have nda : d ≠ a := (g1.1.ne nd).symm
        have gd := Go.new (o := .dT []) g1.1 nd
        refine for_range (lo := 0) (n := n.toNat) (fun i σ' H3 => ∃ (v3 v5 : Option V) (L : Bs), σ' = [some (.ref a), some (.int (m : Int)), some (.int way), v3, some (.ref d), v5, Option.none, Option.none, Option.none, Option.none] ∧ Go a H' H3 ∧ H3 d = some (.dT (L.map ent)) ∧ InB L m ∧ L.Pairwise Unlike ∧ L.length ≤ i) ?_ ?_ ?_
        · exact ⟨_, _, [], rfl, gd.trans g2, g2.2 _ _ nda upd_same, fun q h => (nomatch h), .nil, Nat.le_refl _⟩
        · rintro i σ' H3 hi ⟨v3, v5, L, rfl, g3, hd, inb, ndl, len⟩
          refine ⟨_, rfl, _, rfl, m, rfl, m8, fun l as H4 e4 hl pt => ?_⟩
          have g4 := Go.of_ext g3.1 e4
          have nl := pot_refs g4.1 hl
          refine ⟨a, l, _, rfl, g4.1, nl, hl, str_ne m1 pt, Nat.le_trans (str_le m8 pt) (by decide), fun x H5 hx g5 => ?_⟩
          obtain ⟨b, u, rfl, hu, hb⟩ := drawn g4.1 pt hx g5
          obtain ⟨p, q, rfl⟩ := upto_pair hu
          obtain ⟨p0, pq, qm⟩ := mem_str.mp hu
          have hd5 := g5.2 _ _ nda (e4 _ _ hd)
          refine ⟨_, rfl, d, rfl, .inr ⟨_, .inl hd5⟩, _, rfl, _, DGet.t (k := [.inl p, .inl q]) hd5 hb, ?_⟩
          rw [getD_val (ent_ints L)]
          refine ⟨_, rfl, _, _, rfl, rfl, ⟨by decide, by decide, by decide⟩, by show 4 ≤ sizeLine; decide, fun l2 nl2 => ?_⟩
          refine ⟨a, l2, _, rfl, g5.1.upd nl2, (g5.1.ne nl2).symm, upd_same, by simp, by show 4 ≤ 1000; decide, fun y H6 hy g6 => ?_⟩
          obtain ⟨z, rfl, z1⟩ := gens hy
          have gl := Go.new (o := .lst [.int 1, .int 1, .int 2, .int (10 ^ 9)]) g5.1 nl2
          have hd6 := g6.2 _ _ nda (Ext.upd nl2 _ _ hd5)
          have hb6 := g6.tup gl.1 (Ext.upd nl2 _ _ hb)
          have hw := val_ent_nn inb ndl p q
          refine ⟨_, _, rfl, rfl, _, rfl, _, rfl, d, _, rfl, DPut.t (k := [.inl p, .inl q]) hd6 hb6 (by rw [List.length_map, sizeLine_eq]; omega), ?_⟩
          rw [putK_ent]
          refine ⟨_, _, put1 L p q (val (L.map ent) p q + z), rfl, Go.put g1.1 ((((g3.trans g4).trans g5).trans gl).trans g6) nd, upd_same, put1_in inb p0 pq qm (by omega), put1_nd p q _ ndl, ?_⟩
          have := put1_len L p q (val (L.map ent) p q + z)
          omega
        · rintro σ' H3 ⟨v3, v5, L, rfl, g3, hd, inb, ndl, len⟩
          exact ⟨_, _, L, rfl, g3, hd, inb, ndl, by omega⟩
      · rintro σ' H3 ⟨v3, v5, L, rfl, g3, hd, inb, ndl, len⟩
        refine fun e ne => ?_
        have nea : e ≠ a := (g3.1.ne ne).symm
        have nde : d ≠ e := ne_of_none hd ne
        have ne1 : H' e = none := go_none g3 ne
        refine ⟨fun σ' H4 => ∃ (v3 v5 v7 v8 : Option V), σ' = [some (.ref a), some (.int (m : Int)), some (.int way), v3, some (.ref d), v5, some (.ref e), v7, v8, Option.none] ∧ Go a H' H4 ∧ H4 d = some (.dT (L.map ent)) ∧ H4 e = some (.dT (toldL L m)), ?_, ?_⟩
        · refine ⟨_, rfl, m, rfl, m8, fun l as H4 e4 hl pt => ⟨l, rfl, ⟨_, SqL.of hl⟩, ?_⟩⟩
          have xe := Ext.upd (o := .dT []) ne
          have g4 : Go a H' H4 := (g3.trans (Go.new g3.1 ne)).trans (Go.of_ext (g3.1.upd ne) e4)
          have hd4 := e4 _ _ (xe _ _ hd)
          have he4 : H4 e = some (.dT []) := e4 _ _ upd_same
          have nle : l ≠ e := (lst_dT hl he4).symm
          have nla := pot_refs g4.1 hl
          refine for_list (K := K) (a := l) (xs := as.map V.ref) (fun i σ' H5 => (∃ v3 v5 v7 v8 : Option V, σ' = [some (.ref a), some (.int (m : Int)), some (.int way), v3, some (.ref d), v5, some (.ref e), v7, v8, Option.none]) ∧ (∀ b o, b ≠ e → H4 b = some o → H5 b = some o) ∧
            H5 e = some (.dT (((strL m).take i).map fun l => (kS l, V.int (sm L (l.getD 0 0) (l.getD 1 0)))))) ⟨⟨_, _, _, _, rfl⟩, fun _ _ _ z => z, he4⟩ (fun i σ' H5 _ z => SqL.of (z.2.1 _ _ nle hl)) ?_ ?_
          · rintro i y σ' H5 hy ⟨⟨v3, v5, v7, v8, rfl⟩, kp, he⟩
            rw [List.getElem?_map] at hy
            cases hi : as[i]? with
            | none => rw [hi] at hy; cases hy
            | some b =>
              rw [hi] at hy
              cases hy
              obtain ⟨u, hu, hb⟩ := pt.get hi
              obtain ⟨x, z, rfl⟩ := upto_pair (List.mem_of_getElem? hu)
              have hd5 := kp _ _ nde hd4
              have hb5 := kp _ _ (tup_dT he4 hb) hb
              refine ⟨b, _, rfl, SqT.of hb5, rfl, _, _, rfl, _, _, rfl, rfl, ?_⟩
              refine ⟨d, _, hd5, True.intro, fun od => ⟨_, rfl, d, od, rfl, .inr ⟨L.map ent, upd_same, fun D nD => ?_⟩⟩⟩
              have nDd : D ≠ d := fun q => by rw [q, upd_same] at nD; cases nD
              refine lc_it walk_keysT (fun j H6 => H6 = upd (upd H5 d (.frz od (.dT (L.map ent)))) D (.lst ((selN (L.take j) x z).map V.int))) rfl (fun j H6 _ q => by rw [q, upd_ne nDd.symm, upd_same]) ?_ ?_
              · rintro j w H6 H7 hj rfl ⟨rfl, kk, v, qa, hk, rfl, hq⟩
                rw [List.getElem?_map] at hk
                cases hL : L[j]? with
                | none => rw [hL] at hk; cases hk
                | some q =>
                  rw [hL] at hk
                  have hk' : ent q = (kk, v) := Option.some.inj hk
                  have ek : kk = [.inl q.1, .inl q.2.1] := (congrArg Prod.fst hk').symm
                  subst ek
                  have hq' : (upd (upd H5 d (.frz od (.dT (L.map ent)))) D (.lst ((selN (L.take j) x z).map V.int))) qa = some (.tup [.int q.1, .int q.2.1]) := hq
                  have st := selN_take hL x z
                  have le8 : (selN (L.take j) x z).length ≤ 8 := Nat.le_trans (selN_len _ _ _) (Nat.le_trans (List.length_take_le _ _) (Nat.le_trans (by have := (List.getElem?_eq_some_iff.mp hL).1; omega) len))
                  refine ⟨rfl, _, rfl, _, _, _, _, rfl, rfl, SqT.of hq', rfl, _, rfl, _, _, rfl, rfl, _, rfl, ?_⟩
                  refine ite2 (fun c1 => ?_) (fun c1 => ?_)
                  · refine ⟨_, rfl, _, rfl, _, _, _, _, rfl, rfl, SqT.of hq', rfl, _, _, rfl, rfl, _, rfl, ?_⟩
                    refine ite2 (fun c2 => ?_) (fun c2 => ?_)
                    · have dg : DGet (upd (upd H5 d (.frz od (.dT (L.map ent)))) D (.lst ((selN (L.take j) x z).map V.int))) d (.ref qa) (some (.int q.2.2)) := by
                        rw [← ent_val ndl (List.mem_of_getElem? hL)]
                        exact .inr ⟨L.map ent, [.inl q.1, .inl q.2.1], qa, .inr ⟨od, by rw [upd_ne nDd.symm, upd_same]⟩, rfl, hq, rfl⟩
                      refine ⟨_, rfl, _, rfl, d, _, rfl, dg, _, upd_same, small1000 (by rw [List.length_map]; omega), ?_⟩
                      rw [st, if_pos (by rw [c1, c2]; rfl), upd_upd, List.map_append]
                      rfl
                    · show _ = _
                      rw [st, if_neg (by rw [Bool.and_eq_true]; exact fun w => c2 w.2), List.append_nil]
                  · show _ = _
                    rw [st, if_neg (by rw [Bool.and_eq_true]; exact fun w => c1 w.1), List.append_nil]
              · rintro H6 rfl
                rw [List.length_map, List.take_of_length_le (Nat.le_refl _)]
                have hd6 : (upd (upd H5 d (.frz od (.dT (L.map ent)))) D (.lst ((selN L x z).map V.int))) d = some (.frz od (.dT (L.map ent))) := by rw [upd_ne nDd.symm, upd_same]
                refine ⟨hd6, ?_⟩
                have nD5 : H5 D = none := by rw [upd_ne nDd] at nD; exact nD
                have e7 : Ext H5 (upd (upd (upd H5 d (.frz od (.dT (L.map ent)))) D (.lst ((selN L x z).map V.int))) d (.dT (L.map ent))) := fun b o hb => by
                  by_cases q1 : b = d
                  · rw [q1, upd_same, ← hd5, ← q1]; exact hb
                  · rw [upd_ne q1, upd_ne (ne_of_none hb nD5), upd_ne q1]; exact hb
                have hD7 : (upd (upd (upd H5 d (.frz od (.dT (L.map ent)))) D (.lst ((selN L x z).map V.int))) d (.dT (L.map ent))) D = some (.lst ((selN L x z).map V.int)) := by rw [upd_ne nDd, upd_same]
                generalize upd (upd (upd H5 d (.frz od (.dT (L.map ent)))) D (.lst ((selN L x z).map V.int))) d (.dT (L.map ent)) = H7 at e7 hD7 ⊢
                refine ⟨D, _, rfl, SqL.of hD7, ?_⟩
                rw [selN_sum]
                have lu := PT2.len pt
                have l64 := str_le m8 pt
                refine ⟨_, rfl, _, rfl, _, rfl, by show 2 ≤ sizeLine; decide, fun t nt => ?_⟩
                have xt := Ext.upd (o := .tup [V.int x, V.int z]) nt
                refine ⟨e, _, rfl, DPut.t (k := kS [x, z]) (xt _ _ (e7 _ _ he)) (by rw [kS_vals]; exact upd_same) (by
                  rw [List.length_map, List.length_take, sizeLine_eq]
                  rw [List.length_map] at l64
                  omega), ?_⟩
                refine ⟨⟨_, _, _, _, rfl⟩, fun b o nb hb => by rw [upd_ne nb]; exact xt _ _ (e7 _ _ (kp _ _ nb hb)), ?_⟩
                rw [upd_same]
                have := put_take (fun l => V.int (sm L (l.getD 0 0) (l.getD 1 0))) hu
                exact congrArg (fun k => some (HO.dT k)) this
          · rintro σ' H5 ⟨⟨v3, v5, v7, v8, rfl⟩, kp, he⟩
            rw [List.length_map, PT2.len pt, List.take_of_length_le (Nat.le_refl _)] at he
            refine ⟨_, _, _, _, rfl, ?_, kp _ _ nde hd4, he⟩
            refine ⟨?_, fun b o nb hb => kp _ _ (fun q => by rw [q, ne1] at hb; cases hb) (g4.2 b o nb hb), fun c xs hc => let ⟨ys, h⟩ := g4.3 c xs hc; ⟨ys, kp _ _ nea.symm h⟩⟩
            obtain ⟨c, ns, i, z, s, n, h1, h2⟩ := g4.1
            exact ⟨c, ns, i, z, s, n, kp _ _ nea.symm h1, kp _ _ (fun q => by rw [q, he4] at h2; cases h2) h2⟩
        · rintro σ' H4 ⟨v3, v5, v7, v8, rfl, g4, hd, he⟩
          refine ⟨fun σ' H5 => σ' = [some (.ref a), some (.int (m : Int)), some (.int way), v3, some (.ref d), v5, some (.ref e), v7, v8, Option.none] ∧ H5 = H4 ∧ way ≠ 1, ?_, ?_⟩
          · refine ⟨_, rfl, rfl, _, rfl, ?_⟩
            refine ite2 (fun q => ?_) (fun q => ⟨rfl, rfl, fun e => q (by rw [e]; rfl)⟩)
            refine ⟨_, rfl, _, rfl, d, _, rfl, hd, fun kv hk => ?_, fun bs ys p ik pm asc np => ⟨p, rfl, ⟨_, SqL.of upd_same⟩, fun D nD => ?_⟩⟩
            · obtain ⟨q, _, rfl⟩ := List.mem_map.mp hk
              exact ⟨_, _, rfl⟩
            have xp := Ext.upd (o := .lst (ys.map V.ref)) np
            have ly : ys.length ≤ 8 := by
              rw [pm.length_eq]
              have := Paired.length ik
              rw [List.length_map] at this
              omega
            refine lc_list (K := K) (a := p) (xs := ys.map V.ref) (fun j H5 => Ext (upd H4 p (.lst (ys.map V.ref))) H5 ∧ ∃ cs : List Addr, H5 D = some (.lst (cs.map V.ref)) ∧ PT2 H5 cs ((barsOf H4 L (ys.take j)).map fun q => [q.1, q.2.1, q.2.2])) ⟨Ext.upd nD, [], upd_same, .nil⟩ (fun j H5 _ z => SqL.of (z.1 _ _ upd_same)) ?_ ?_
            · rintro j y H5 hy ⟨e5, cs, hD, pc⟩
              rw [List.getElem?_map] at hy
              cases hj : ys[j]? with
              | none => rw [hj] at hy; cases hy
              | some b =>
                rw [hj] at hy
                cases hy
                obtain ⟨q0, hq0, hb⟩ := (keys_ent ik).2 b (pm.mem_iff.mp (List.mem_of_getElem? hj))
                have hb5 := e5 _ _ (xp _ _ hb)
                have hd5 := e5 _ _ (xp _ _ hd)
                refine ⟨b, _, rfl, SqT.of hb5, rfl, _, _, rfl, _, _, rfl, rfl, rfl, ?_⟩
                refine tyes_in ⟨_, rfl, _, rfl, _, rfl, _, rfl, _, rfl, by show 2 ≤ sizeLine; decide, fun t nt => ?_⟩
                have xt := Ext.upd (o := .tup [V.int q0.1, V.int q0.2.1]) nt
                have dg := DGet.t (k := [.inl q0.1, .inl q0.2.1]) (xt _ _ hd5) (upd_same (H := H5) (a := t) (o := .tup [V.int q0.1, V.int q0.2.1]))
                rw [ent_val ndl hq0] at dg
                refine ⟨d, _, rfl, dg, by show 3 ≤ sizeLine; decide, fun t2 nt2 => ?_⟩
                have xt2 := Ext.upd (o := .tup [V.int q0.1, V.int q0.2.1, V.int q0.2.2]) nt2
                have hD6 := xt2 _ _ (xt _ _ hD)
                have lc := PT2.len pc
                have lc2 : cs.length ≤ 8 := by
                  rw [lc, List.length_map]
                  unfold barsOf
                  rw [List.length_map, List.length_take]
                  omega
                have nDb : (upd H4 p (.lst (ys.map V.ref))) D = none := nD
                have kp : ∀ c xs, H5 c = some (.tup xs) → (upd (upd (upd H5 t (.tup [V.int q0.1, V.int q0.2.1])) t2 (.tup [V.int q0.1, V.int q0.2.1, V.int q0.2.2])) D (.lst (cs.map V.ref ++ [.ref t2]))) c = some (.tup xs) := fun c xs z => by
                  have z4 := xt2 _ _ (xt _ _ z)
                  rw [upd_ne (lst_ne hD6 z4)]
                  exact z4
                refine ⟨_, hD6, small1000 (by rw [List.length_map]; omega), fun b' o hb' => ?_, cs ++ [t2], ?_, ?_⟩
                · rw [upd_ne (ne_of_none hb' nD)]
                  exact xt2 _ _ (xt _ _ (e5 _ _ hb'))
                · rw [upd_same, List.map_append]
                  rfl
                · have st : barsOf H4 L (ys.take (j + 1)) = barsOf H4 L (ys.take j) ++ [q0] := by
                    unfold barsOf
                    rw [List.take_succ, hj, List.map_append]
                    congr 1
                    have pk : pairK H4 b = (q0.1, q0.2.1) := by
                      unfold pairK
                      rw [hb]
                    show [((pairK H4 b).1, (pairK H4 b).2, at1 L (pairK H4 b).1 (pairK H4 b).2)] = [q0]
                    rw [pk]
                    show [(q0.1, q0.2.1, at1 L q0.1 q0.2.1)] = [q0]
                    rw [at1_mem ndl hq0]
                  rw [st, List.map_append]
                  refine PT2.snoc (PT2.mono kp pc) ?_
                  rw [upd_ne (ne_of_none (xt _ _ hD) nt2).symm, upd_same]
                  rfl
            · rintro H5 ⟨e5, cs, hD, pc⟩
              rw [List.length_map, List.take_of_length_le (Nat.le_refl _)] at pc
              refine ⟨D, _, rfl, .inl ⟨SqL.of hD, fun q1 nq => ⟨by show 2 ≤ sizeLine; decide, fun r nr => ?_⟩⟩⟩
              have xq := Ext.upd (o := .tup (cs.map V.ref)) nq
              have xr := Ext.upd (o := .tup [.ref e, .ref q1]) nr
              have ex := (xp.trans e5).trans (xq.trans xr)
              refine k r e (toldL L m) (.ref q1) _ ((g1.trans g4).trans (Go.of_ext g4.1 ex)) upd_same (ex _ _ he) (told_keyed inb) (.inr ⟨q1, cs, _, rfl, xr _ _ upd_same, PT2.mono (fun _ _ z => xr _ _ (xq _ _ z)) pc, ?_⟩)
              exact put_told inb ndl (barsOf_perm ndl ik pm) (barsOf_asc ndl ik pm asc)
          · rintro σ' H5 ⟨rfl, rfl, wn1⟩
            refine ⟨_, rfl, _, _, rfl, rfl, way - 1, rfl, by omega, by omega, ?_⟩
            refine for_range (lo := 0) (n := (way - 1).toNat) (fun i σ' H6 => ∃ (v9 : Option V) (kvs : List (List Key × V)), σ' = [some (.ref a), some (.int (m : Int)), some (.int way), v3, some (.ref d), v5, some (.ref e), v7, v8, v9] ∧ Go a H' H6 ∧ H6 e = some (.dT kvs) ∧ Keyed kvs m) ⟨_, _, rfl, g4, he, told_keyed inb⟩ ?_ ?_
            · rintro i σ' H6 hi ⟨v9, kvs, rfl, g6, he6, ky⟩
              refine ⟨_, rfl, a, 4, rfl, g6.1, by decide, by decide, fun n H7 n0 n4 g7 => ?_⟩
              refine ⟨_, rfl, _, rfl, _, rfl, m, rfl, m8, fun l as H8 e8 hl pt => ?_⟩
              have g8 := Go.of_ext g7.1 e8
              refine ⟨a, l, _, rfl, g8.1, pot_refs g8.1 hl, hl, str_ne m1 pt, Nat.le_trans (str_le m8 pt) (by decide), fun x H9 hx g9 => ?_⟩
              obtain ⟨b, u, rfl, hu, hb⟩ := drawn g8.1 pt hx g9
              have he9 := g9.2 _ _ nea (e8 _ _ (g7.2 _ _ nea he6))
              have lk := ky.len
              have l64 := str_len m8
              refine ⟨e, _, rfl, DPut.t (k := kS u) he9 (by rw [kS_vals]; exact hb) (by rw [sizeLine_eq]; omega), ?_⟩
              exact ⟨_, _, rfl, Go.put g1.1 (((g6.trans g7).trans g8).trans g9) ne1, upd_same, ky.put hu n0⟩
            · rintro σ' H6 ⟨v9, kvs, rfl, g6, he6, ky⟩
              refine ⟨_, rfl, by show 2 ≤ sizeLine; decide, fun r nr => ?_⟩
              exact k r e kvs .non _ ((g1.trans g6).trans (Go.new g6.1 nr)) upd_same (Ext.upd nr _ _ he6) ky (.inl rfl)
end
end R36

set_option Elab.async false
set_option linter.all false
set_option maxRecDepth 100000
set_option maxHeartbeats 4000000
set_option pp.maxSteps 60
/-! What is no reaches told: what the law draws. -/
namespace R36
open PySem L2
abbrev sNoR : Stmt := top 24
theorem set_or {X : Cx} {r q : TSet} (hr : PSet X r) (hq : PSet X q) : PSet X (fun o i v H Q => r o i v H Q ∨ q o i v H Q) := by
  intro pins s σ H o i v ov iv u Q I ro ri rv h
  rcases h with h | h
  · exact hr pins s σ H o i v ov iv u Q I ro ri rv h
  · exact hq pins s σ H o i v ov iv u Q I ro ri rv h
/-- no reaches told, of m places -/
def BadR (K : PySem.W.Frag) (S : Hp) (m : Nat) (y : V) : Prop :=
  (∃ t, TyX K S y t ∧ PySem.W.kitOne K t (.type "dict") = some false) ∨ (∃ p n, y = .ref p ∧ S p = some (mixO p n) ∧ n ≤ 1000 ∧ n ≠ (strL m).length) ∨ (∃ p, y = .ref p ∧ S p = some (.dK [])) ∨
  ∃ p kvs, y = .ref p ∧ S p = some (.dT kvs) ∧ (∀ kv ∈ kvs, Th K S 0 kv.2) ∧ ¬ GoodR kvs m
theorem BadR.ext {K : PySem.W.Frag} {S S' : Hp} {m : Nat} {y : V} (e : Ext S S') (h : BadR K S m y) : BadR K S' m y := by
  rcases h with ⟨t, a, b⟩ | ⟨p, n, a, b, c, d⟩ | ⟨p, a, b⟩ | ⟨p, kvs, a, b, c, d⟩
  · exact .inl ⟨t, TyX.ext a e, b⟩
  · exact .inr (.inl ⟨p, n, a, e _ _ b, c, d⟩)
  · exact .inr (.inr (.inl ⟨p, a, e _ _ b⟩))
  · exact .inr (.inr (.inr ⟨p, kvs, a, e _ _ b, fun kv hk => (c kv hk).ext e, d⟩))
theorem NoDW.bad {K : PySem.W.Frag} {S : Hp} {m : Nat} {y : V} (h : NoDW K S y) : BadR K S m y := by
  rcases h with h | h
  · exact .inl h
  · exact .inr (.inr (.inl h))
theorem NoDW.ext {K : PySem.W.Frag} {S S' : Hp} {y : V} (e : Ext S S') (h : NoDW K S y) : NoDW K S' y := by
  rcases h with ⟨t, a, b⟩ | ⟨p, a, b⟩
  · exact .inl ⟨t, TyX.ext a e, b⟩
  · exact .inr ⟨p, a, e _ _ b⟩
theorem pot_dT {H : Hp} {a p : Addr} {kvs : List (List Key × V)} (x : PotAt H a) (h : H p = some (.dT kvs)) : p ≠ a := pot_no x h fun _ z => nomatch z
theorem off_dT {H : Hp} {a p : Addr} {kvs : List (List Key × V)} (x : PotAt H a) (h : H p = some (.dT kvs)) : (Off a H) p = some (.dT kvs) := off_at (pot_dT x h) h fun _ z => nomatch z
theorem bad_len {kvs : List (List Key × V)} {m : Nat} (h : kvs.length ≠ (strL m).length) : ¬ GoodR kvs m := fun z => h z.1
theorem val_set {k : List Key} {v : V} : ∀ {kvs : List (List Key × V)}, (kvs.any fun kv => decide (kv.1 = k)) = true → valV (kvs.map fun kv => if kv.1 = k then (kv.1, v) else kv) k = some v
  | [], c => by cases c
  | kv :: r, c => by
    rw [List.map_cons]
    by_cases e : kv.1 = k
    · rw [if_pos e, valV_pos (p := (kv.1, v)) e]
    · rw [if_neg e, valV_neg e]
      rw [List.any_cons, decide_eq_false e, Bool.false_or] at c
      exact val_set c
theorem val_add {k : List Key} {v : V} : ∀ {kvs : List (List Key × V)}, ¬ (kvs.any fun kv => decide (kv.1 = k)) = true → valV (kvs ++ [(k, v)]) k = some v
  | [], _ => valV_pos rfl
  | kv :: r, c => by
    rw [List.any_cons, Bool.or_eq_true, not_or] at c
    have e : ¬ kv.1 = k := fun e => c.1 (decide_eq_true e)
    rw [List.cons_append, valV_neg e]
    exact val_add c.2
theorem val_put {k : List Key} {v : V} {kvs : List (List Key × V)} : valV (putK kvs k v) k = some v := by
  unfold putK
  by_cases c : (kvs.any fun kv => decide (kv.1 = k)) = true
  · rw [if_pos c]; exact val_set c
  · rw [if_neg c]; exact val_add c
theorem val_nd {k : List Key} {v : V} : ∀ {kvs : List (List Key × V)}, (kvs.map (·.1)).Nodup → (k, v) ∈ kvs → valV kvs k = some v
  | [], _, h => by cases h
  | kv :: r, nd, h => by
    rw [List.map_cons, List.nodup_cons] at nd
    rcases List.mem_cons.mp h with e | e
    · rw [← e]; exact valV_pos rfl
    · have : ¬ kv.1 = k := fun z => nd.1 (List.mem_map.mpr ⟨_, e, z.symm⟩)
      rw [valV_neg this]
      exact val_nd nd.2 e
theorem put_bad {kvs : List (List Key × V)} {m : Nat} {l : List Int} {v : V} (h : l ∈ strL m) (hv : ∀ i : Int, 0 ≤ i → v ≠ .int i) : ¬ GoodR (putK kvs (kS l) v) m := fun z => by
  obtain ⟨i, i0, e⟩ := z.2 l h
  rw [val_put] at e
  exact hv i i0 (Option.some.inj e)
theorem put_mem {k : List Key} {v : V} {kvs : List (List Key × V)} {kv : List Key × V} (h : kv ∈ putK kvs k v) : kv.2 = v ∨ ∃ kw ∈ kvs, kv.2 = kw.2 := by
  unfold putK at h
  by_cases c : (kvs.any fun kv => decide (kv.1 = k)) = true
  · rw [if_pos c] at h
    obtain ⟨x, hx, rfl⟩ := List.mem_map.mp h
    by_cases e : x.1 = k
    · rw [if_pos e]; exact .inl rfl
    · rw [if_neg e]; exact .inr ⟨x, hx, rfl⟩
  · rw [if_neg c] at h
    rcases List.mem_append.mp h with z | z
    · exact .inr ⟨kv, z, rfl⟩
    · rw [List.mem_singleton.mp z]
      exact .inl rfl
/-- the dict is as it was, or no reaches told any more -/
def Turn (K : PySem.W.Frag) (a q b : Addr) (u : List Int) (m : Nat) (kvs : List (List Key × V)) (H : Hp) (way : Int) (n : Int) (H' : Hp) : Prop := Go a H H' ∧ H' b = some (.tup (u.map V.int)) ∧ (n ≤ way → H' q = some (.dT kvs)) ∧ (way < n → BadR K (Off a H') m (.ref q))
theorem odd_keys {S : Hp} {m : Nat} {t1 t2 t3 t4 t5 t6 : Addr} {x : V} (h1 : S t1 = some (.tup [.int 1, .int 0])) (h2 : S t2 = some (.tup [.int 0, .int (m : Int)])) (h3 : S t3 = some (.tup [.int (-1), .int 0])) (h4 : S t4 = some (.tup [.int (m : Int), .int (m : Int)])) (h5 : S t5 = some (.tup [.int 0])) (h6 : S t6 = some (.tup [.int 0, .int 0, .int 0]))
    (hx : x ∈ ([.ref t1, .ref t2, .ref t3, .ref t4, .str "0", .int 0, .ref t5, .ref t6] : List V)) : (∃ (t : Addr) (l : List Int), x = .ref t ∧ S t = some (.tup (l.map V.int)) ∧ l ∉ strL m) ∨ ∃ k : Key, x = kV k := by
  have two : ∀ {l : List Int}, l.length ≠ 2 → l ∉ strL m := fun h z => by
    obtain ⟨b, e, rfl⟩ := upto_pair z
    exact h rfl
  simp only [List.mem_cons, List.not_mem_nil, or_false] at hx
  rcases hx with rfl | rfl | rfl | rfl | rfl | rfl | rfl | rfl
  · exact .inl ⟨t1, [1, 0], rfl, h1, fun z => by have := mem_str.mp z; omega⟩
  · exact .inl ⟨t2, [0, (m : Int)], rfl, h2, fun z => by have := mem_str.mp z; omega⟩
  · exact .inl ⟨t3, [-1, 0], rfl, h3, fun z => by have := mem_str.mp z; omega⟩
  · exact .inl ⟨t4, [(m : Int), (m : Int)], rfl, h4, fun z => by have := mem_str.mp z; omega⟩
  · exact .inr ⟨.inr "0", rfl⟩
  · exact .inr ⟨.inl 0, rfl⟩
  · exact .inl ⟨t5, [0], rfl, h5, two (by decide)⟩
  · exact .inl ⟨t6, [0, 0, 0], rfl, h6, two (by decide)⟩
theorem put_len_new {kvs : List (List Key × V)} {m : Nat} {l : List Int} {v : V} (ky : Keyed kvs m) (h : l ∉ strL m) : (putK kvs (kS l) v).length = (strL m).length + 1 := by
  rw [putK_new (fun z => by
    rw [ky.1] at z
    obtain ⟨x, hx, e⟩ := List.mem_map.mp z
    exact h (kS_inj e ▸ hx)), List.length_append, ky.len]
  rfl
theorem Keyed.th {K : PySem.W.Frag} {S : Hp} {kvs : List (List Key × V)} {m : Nat} (h : Keyed kvs m) : ∀ kv ∈ kvs, Th K S 0 kv.2 := fun kv hk => by
  obtain ⟨i, _, e⟩ := h.2 kv hk
  rw [e]
  exact Th.int i
def spNoR (K : PySem.W.Frag) : Sp := fun vs H Q _ => ∃ (a p : Addr) (m : Nat) (kvs : List (List Key × V)), vs = [.ref a, .int (m : Int), .ref p] ∧ PotAt H a ∧ 1 ≤ m ∧ m ≤ 8 ∧ H p = some (.dT kvs) ∧ Keyed kvs m ∧ ∀ (x : V) (H' : Hp), Go a H H' → BadR K (Off a H') m x → Q x H'
section
variable {P : Program} {w : World} {K : PySem.W.Frag} {mg : Str → Option Value} {base : Heap}
abbrev noRN : List Str := ["purse", "many", "told", "other", "pair", "way", "key"]
theorem scNoR : FnScope noRN ["purse", "many", "told"] (defScope sNoR) := ⟨rfl, rfl, rfl, by decide +kernel, rfl, by decide +kernel, by decide +kernel⟩
theorem ok_noR {f : Addr} {fd : FuncData} (F : L2.Fun K "_law_no_reaches" "_law_no_reaches" sNoR f fd) (T : Gb mg) (M : DictC mg) (cD : Cal P w K mg base 1 "_law_part" spDraw []) (cA : Cal P w K mg base 2 "_law_one" spAny []) (cS : Cal P w K mg base 2 "_law_stretches" spStr []) (cO : Cal P w K mg base 3 "_law_odd" (spOddN K) []) : FnOk P w K mg base CX0 4 f fd ["purse", "many", "told"] (spNoR K) := by
  refine F.ok scNoR (fun vs H Q E h => ?_) (fun cdv A outer s H vs Q E hr h => ?_)
  · obtain ⟨a, p, m, kvs, rfl, _⟩ := h
    rfl
  · obtain ⟨a, p, m, kvs, rfl, pot, m1, m8, hp, ky, k⟩ := h
    have hu1 := Nat.lt_of_le_of_lt (Nat.add_le_add_left (show 1 ≤ 64 by decide) _) hr.units
    have hu2 := Nat.lt_of_le_of_lt (Nat.add_le_add_left (show 2 ≤ 64 by decide) _) hr.units
    have npa := pot_dT pot hp
    have lk := ky.len
    have l64 := str_len m8
    have spos := str_pos m1
    refine ⟨_, pss_cons (ps_par (i := 3) (j := 4) (by rfl) scNoR.nd rfl rfl (by decide) rfl rfl (pa_cons (pe_callTy (call_dictPT rfl hu2) (by rfl) M.dict (by decide +kernel) (pa_cons (pe_lock (pe_lc (own := [("key", 6)]) (g := gName 6) (tt := tYes) rfl scNoR.nd (pi_keys (pv 2)) (blkOk_by (N := noRN) (sc := defScope sNoR) (by decide +kernel)) (fun _ _ _ _ _ => (pg_name (i := 6) scNoR.nd rfl (Or.inl rfl))) (fun _ _ _ _ _ => pts_nil) (fun _ _ _ _ _ => (pe_tup (pa_cons (pv 6) (pa_cons (pe_dget hu1 (pv 2) (pv 6) (fun _ _ => rfl)) pa_nil)))))) pa_nil)) (pa_cons (C8.pe_c cA hr (by decide) (by rfl) (pa_cons (pv 0) (pa_cons (C8.pe_c cS hr (by decide) (by rfl) (pa_cons (pv 1) pa_nil)) pa_nil))) pa_nil)) (by rfl))
      (pss_cons (ps_set (i := 5) scNoR.nd rfl (Or.inl rfl) (C8.pe_c cD hr (by decide) (by rfl) (pa_cons (pv 0) (pa_cons pe_int pa_nil))))
      (C8.pss_cut (ps_if (pt_cmpR op_eq (pv 5) pe_int (nomark _)) (pss_one (ps_expr (pe_bm PySem.F.plainAttrs_dict PySem.F.slot_dict_pop PySem.F.type_dict_pop (mt_popN hu1) (pv 3) (pa_cons (pv 4) pa_nil)))) pss_nil)
      (C8.pss_cut (ps_if (pt_cmpR op_eq (pv 5) pe_int (nomark _)) (pss_one (ps_asg pe_int (pg_sub (pv 3) (C8.pe_c cA hr (by decide) (by rfl) (pa_cons (pv 0) (pa_cons (pe_lst (pa_cons (pe_tup (pa_cons pe_int (pa_cons pe_int pa_nil))) (pa_cons (pe_tup (pa_cons pe_int (pa_cons (pv 1) pa_nil))) (pa_cons (pe_tup (pa_cons (pe_un un_neg pe_int) (pa_cons pe_int pa_nil))) (pa_cons (pe_tup (pa_cons (pv 1) (pa_cons (pv 1) pa_nil))) (pa_cons pe_str (pa_cons pe_int (pa_cons (pe_tup (pa_cons pe_int pa_nil)) (pa_cons (pe_tup (pa_cons pe_int (pa_cons pe_int (pa_cons pe_int pa_nil)))) pa_nil))))))))) pa_nil))) (set_or (set_dict hu1) (set_mix hu1))))) pss_nil)
      (C8.pss_cut (ps_if (pt_cmpR op_eq (pv 5) pe_int (nomark _)) (pss_one (ps_dput hu1 (pv 3) (pv 4) (C8.pe_c cA hr (by decide) (by rfl) (pa_cons (pv 0) (pa_cons (pe_lst (pa_cons (pe_un un_neg pe_int) (pa_cons pe_non (pa_cons pe_bl (pa_cons pe_str (pa_cons (pe_tup (pa_cons pe_int pa_nil)) (pa_cons (pe_lst pa_nil) pa_nil))))))) pa_nil))) rfl)) pss_nil)
      (C8.pss_cut (ps_if (pt_cmpR op_eq (pv 5) pe_int (nomark _)) (pss_one (ps_ret (C8.pe_c cA hr (by decide) (by rfl) (pa_cons (pv 0) (pa_cons (pe_lst (pa_cons pe_non (pa_cons (pe_tup pa_nil) (pa_cons (pe_lst pa_nil) (pa_cons (pe_callB (cr_sortedII rfl hr.units) (by rfl) T.sorted (by decide +kernel) (pa_cons (pe_bm0 PySem.F.plainAttrs_dict PySem.F.slot_dict_items PySem.F.type_dict_items DX.mt_itemsT (pv 2)) pa_nil)) (pa_cons pe_int (pa_cons (C8.pe_c cO hr (by decide) (by rfl) (pa_cons (pv 0) pa_nil)) pa_nil))))))) pa_nil))))) pss_nil)
      (pss_one (ps_ret (pe_ifExp (pt_cmpR op_lt (pv 5) pe_int (nomark _)) (pv 3) pe_dnewK)))))))), ?_⟩
    refine ⟨p, _, hp, True.intro, fun od => ⟨_, rfl, p, od, rfl, .inr ⟨kvs, upd_same, fun D nD => ?_⟩⟩⟩
    have nDp : D ≠ p := fun q => by rw [q, upd_same] at nD; cases nD
    refine lc_it walk_keysT (fun j H5 => Ext (upd H p (.frz od (.dT kvs))) H5 ∧ ∃ ts : List Addr, H5 D = some (.lst (ts.map V.ref)) ∧ Paired (fun t kv => ∃ b, H5 t = some (.tup [.ref b, kv.2]) ∧ H5 b = some (.tup (kv.1.map kV))) ts (kvs.take j)) ⟨Ext.upd nD, [], upd_same, .nil⟩ (fun j H5 _ q => q.1 _ _ upd_same) ?_ ?_
    · rintro j x H5 H6 hj ⟨e5, ts, hD, pr⟩ ⟨rfl, kk, v, qa, hk, rfl, hq⟩
      have lt := Paired.length pr
      rw [List.length_take] at lt
      refine ⟨rfl, tyes_in ⟨_, rfl, _, rfl, _, rfl, p, v, rfl, ?_, by show 2 ≤ sizeLine; decide, fun t nt => ?_⟩⟩
      · have : valV kvs kk = some v := val_nd ky.nodup (List.mem_of_getElem? hk)
        rw [← this]
        exact .inr ⟨kvs, kk, qa, .inr ⟨od, e5 _ _ upd_same⟩, rfl, hq, rfl⟩
      · have xt := Ext.upd (o := .tup [.ref qa, v]) nt
        have hD6 := xt _ _ hD
        have kp : ∀ c xs, H6 c = some (.tup xs) → (upd (upd H6 t (.tup [.ref qa, v])) D (.lst (ts.map V.ref ++ [.ref t]))) c = some (.tup xs) := fun c xs z => by
          rw [upd_ne (lst_ne hD6 (xt _ _ z))]
          exact xt _ _ z
        refine ⟨_, hD6, small1000 (by rw [List.length_map]; omega), fun b o hb => ?_, ts ++ [t], ?_, ?_⟩
        · rw [upd_ne (ne_of_none hb nD)]
          exact xt _ _ (e5 _ _ hb)
        · rw [upd_same, List.map_append]
          rfl
        · rw [List.take_succ, hk]
          refine Paired.snoc (Paired.imp' (fun t' kv z => let ⟨b', z1, z2⟩ := z; ⟨b', kp _ _ z1, kp _ _ z2⟩) pr) ⟨qa, ?_, kp _ _ hq⟩
          rw [upd_ne (ne_of_none hD nt).symm, upd_same]
    · rintro H5 ⟨e5, ts, hD, pr⟩
      rw [List.take_of_length_le (Nat.le_refl _)] at pr
      refine ⟨e5 _ _ upd_same, ?_⟩
      have e6 : Ext H (upd H5 p (.dT kvs)) := fun b o hb => by
        by_cases q1 : b = p
        · rw [q1, upd_same, ← hp, ← q1]; exact hb
        · rw [upd_ne q1]; exact e5 _ _ (by rw [upd_ne q1]; exact hb)
      have hD6 : (upd H5 p (.dT kvs)) D = some (.lst (ts.map V.ref)) := by rw [upd_ne nDp]; exact hD
      have kt : ∀ c xs, H5 c = some (.tup xs) → (upd H5 p (.dT kvs)) c = some (.tup xs) := fun c xs z => by
        rw [upd_ne (fun q => by rw [q, e5 _ _ upd_same] at z; cases z)]
        exact z
      have pr6 : Paired (fun t kv => ∃ b, (upd H5 p (.dT kvs)) t = some (.tup [.ref b, kv.2]) ∧ (upd H5 p (.dT kvs)) b = some (.tup (kv.1.map kV))) ts kvs := Paired.imp' (fun t' kv z => let ⟨b', z1, z2⟩ := z; ⟨b', kt _ _ z1, kt _ _ z2⟩) pr
      generalize upd H5 p (.dT kvs) = H6 at e6 hD6 pr6 ⊢
      refine ⟨D, ts, kvs, rfl, SqL.of hD6, pr6, ky.nodup, fun q nq => ?_⟩
      have g6 := Go.of_ext pot e6
      have g7 := Go.new (o := .dT kvs) g6.1 nq
      have nqa : q ≠ a := (g6.1.ne nq).symm
      have nqH := go_none g6 nq
      refine ⟨_, rfl, _, rfl, m, rfl, m8, fun l as H8 e8 hl pt => ?_⟩
      have g8 := Go.of_ext g7.1 e8
      refine ⟨a, l, _, rfl, g8.1, pot_refs g8.1 hl, hl, str_ne m1 pt, Nat.le_trans (str_le m8 pt) (by decide), fun x H9 hx g9 => ?_⟩
      obtain ⟨b, u, rfl, hu, hb⟩ := drawn g8.1 pt hx g9
      have hq9 : H9 q = some (.dT kvs) := g9.2 _ _ nqa (e8 _ _ upd_same)
      have gH9 := ((g6.trans g7).trans g8).trans g9
      refine ⟨_, _, rfl, _, rfl, a, 5, rfl, g9.1, by decide, by decide, fun way H10 w0 w5 g10 => ?_⟩
      have hq10 := g10.2 _ _ nqa hq9
      have hb10 := g10.tup g9.1 hb
      have gH := gH9.trans g10
      have dec : ∀ n : Int, way ≠ n → decide (V.int way = V.int n) = true → False := fun n h e => h (by have := of_decide_eq_true e; injection this)
      have nbq : b ≠ q := tup_dT hq9 hb
      have skip : ∀ {n : Int} {H' : Hp}, way ≠ n → Turn K a q b u m kvs H way n H' → Turn K a q b u m kvs H way (n + 1) H' := fun h t => ⟨t.1, t.2.1, fun z => t.2.2.1 (by omega), fun z => t.2.2.2 (by omega)⟩
      have no : ∀ {n : Int}, ¬ decide (V.int way = V.int n) = true → way ≠ n := fun h e => h (by rw [e]; exact decide_eq_true rfl)
      have yes : ∀ {n : Int}, decide (V.int way = V.int n) = true → way = n := fun h => by have := of_decide_eq_true h; injection this
      refine ⟨fun σ' H' => σ' = [some (.ref a), some (.int (m : Int)), some (.ref p), some (.ref q), some (.ref b), some (.int way), Option.none] ∧ Turn K a q b u m kvs H way 1 H', ?_, ?_⟩
      · refine ⟨_, rfl, rfl, _, rfl, ?_⟩
        refine ite2 (fun z => ?_) (fun z => ⟨rfl, gH, hb10, fun _ => hq10, fun z2 => (no z (by omega)).elim⟩)
        have w00 := yes z
        have hbk : H10 b = some (.tup ((kS u).map kV)) := by rw [kS_vals]; exact hb10
        obtain ⟨v0, hv0, _⟩ := val_of_key (k := kS u) (kvs := kvs) (by rw [ky.1]; exact List.mem_map.mpr ⟨u, hu, rfl⟩)
        refine ⟨_, rfl, .inr (.inr (.inl ⟨rfl, .inr ⟨_, hq10⟩⟩)), _, rfl, q, kvs, kS u, b, v0, rfl, rfl, hq10, hbk, hv0, rfl, ?_⟩
        have gq : Go a H (upd H10 q (.dT (dropK kvs (kS u)))) := Go.put pot gH nqH
        exact ⟨gq, by rw [upd_ne nbq]; exact hb10, fun z2 => by omega, fun _ => .inr (.inr (.inr ⟨q, _, rfl, off_at nqa upd_same (fun _ z => nomatch z), fun kv hk => ky.th kv (List.mem_filter.mp hk).1, drop_bad hu⟩))⟩
      rintro σ' H11 ⟨rfl, t11⟩
      refine ⟨fun σ' H' => σ' = [some (.ref a), some (.int (m : Int)), some (.ref p), some (.ref q), some (.ref b), some (.int way), Option.none] ∧ Turn K a q b u m kvs H way 2 H', ?_, ?_⟩
      · refine ⟨_, rfl, rfl, _, rfl, ?_⟩
        refine ite2 (fun z => ?_) (fun z => ⟨rfl, skip (no z) t11⟩)
        have w1 := yes z
        obtain ⟨g11, hb11, hq11, _⟩ := t11
        have hq11 := hq11 (by omega)
        refine ⟨_, rfl, _, rfl, ?_⟩
        refine ⟨by show 2 ≤ sizeLine; decide, fun t1 n1 => ⟨_, rfl, by show 2 ≤ sizeLine; decide, fun t2 n2 => ⟨_, rfl, by show 2 ≤ sizeLine; decide, fun t3 n3 => ⟨_, rfl, _, rfl, by show 2 ≤ sizeLine; decide, fun t4 n4 => ⟨by show 1 ≤ sizeLine; decide, fun t5 n5 => ⟨by show 3 ≤ sizeLine; decide, fun t6 n6 => ?_⟩⟩⟩⟩⟩⟩
        have x1 := Ext.upd (o := .tup [.int 1, .int 0]) n1
        have x2 := Ext.upd (o := .tup [.int 0, .int (m : Int)]) n2
        have x3 := Ext.upd (o := .tup [.int (-1), .int 0]) n3
        have x4 := Ext.upd (o := .tup [.int (m : Int), .int (m : Int)]) n4
        have x5 := Ext.upd (o := .tup [.int 0]) n5
        have x6 := Ext.upd (o := .tup [.int 0, .int 0, .int 0]) n6
        have h1 := x6 _ _ (x5 _ _ (x4 _ _ (x3 _ _ (x2 _ _ (upd_same (H := H11) (a := t1) (o := .tup [.int 1, .int 0]))))))
        have h2 := x6 _ _ (x5 _ _ (x4 _ _ (x3 _ _ (upd_same (H := upd H11 t1 (.tup [.int 1, .int 0])) (a := t2) (o := .tup [.int 0, .int (m : Int)])))))
        have h3 := x6 _ _ (x5 _ _ (x4 _ _ (upd_same (H := upd (upd H11 t1 (.tup [.int 1, .int 0])) t2 (.tup [.int 0, .int (m : Int)])) (a := t3) (o := .tup [.int (-1), .int 0]))))
        have h4 := x6 _ _ (x5 _ _ (upd_same (H := upd (upd (upd H11 t1 (.tup [.int 1, .int 0])) t2 (.tup [.int 0, .int (m : Int)])) t3 (.tup [.int (-1), .int 0])) (a := t4) (o := .tup [.int (m : Int), .int (m : Int)])))
        have h5 := x6 _ _ (upd_same (H := upd (upd (upd (upd H11 t1 (.tup [.int 1, .int 0])) t2 (.tup [.int 0, .int (m : Int)])) t3 (.tup [.int (-1), .int 0])) t4 (.tup [.int (m : Int), .int (m : Int)])) (a := t5) (o := .tup [.int 0]))
        have h6 := upd_same (H := upd (upd (upd (upd (upd H11 t1 (.tup [.int 1, .int 0])) t2 (.tup [.int 0, .int (m : Int)])) t3 (.tup [.int (-1), .int 0])) t4 (.tup [.int (m : Int), .int (m : Int)])) t5 (.tup [.int 0])) (a := t6) (o := .tup [.int 0, .int 0, .int 0])
        have ex : Ext H11 _ := x1.trans (x2.trans (x3.trans (x4.trans (x5.trans x6))))
        generalize upd (upd (upd (upd (upd (upd H11 t1 (.tup [.int 1, .int 0])) t2 (.tup [.int 0, .int (m : Int)])) t3 (.tup [.int (-1), .int 0])) t4 (.tup [.int (m : Int), .int (m : Int)])) t5 (.tup [.int 0])) t6 (.tup [.int 0, .int 0, .int 0]) = H12 at *
        refine ⟨by show 8 ≤ sizeLine; decide, fun l nl => ?_⟩
        have g12 := Go.of_ext g11.1 ex
        refine ⟨a, l, _, rfl, g12.1.upd nl, (g12.1.ne nl).symm, upd_same, by simp, by show 8 ≤ 1000; decide, fun x H13 hx g13 => ?_⟩
        have tr : ∀ {t : Addr} {xs : List V}, H12 t = some (.tup xs) → H13 t = some (.tup xs) := fun h => g13.tup (g12.1.upd nl) (Ext.upd nl _ _ h)
        have hq13 := g13.2 _ _ nqa (Ext.upd nl _ _ (ex _ _ hq11))
        have hb13 := tr (ex _ _ hb11)
        have g13' : Go a H H13 := ((g11.trans g12).trans (Go.new g12.1 nl)).trans g13
        rcases odd_keys (tr h1) (tr h2) (tr h3) (tr h4) (tr h5) (tr h6) hx with ⟨t, u', rfl, ht, hu'⟩ | ⟨k', rfl⟩
        · refine .inl ⟨q, _, rfl, DPut.t (k := kS u') hq13 (by rw [kS_vals]; exact ht) (by rw [sizeLine_eq]; omega), rfl, Go.put pot g13' nqH, by rw [upd_ne nbq]; exact hb13, fun z2 => by omega, fun _ => ?_⟩
          refine .inr (.inr (.inr ⟨q, _, rfl, off_at nqa upd_same (fun _ z => nomatch z), fun kv hk => ?_, bad_len (by rw [put_len_new ky hu']; omega)⟩))
          rcases put_mem hk with e | ⟨kw, hw, e⟩
          · rw [e]; exact Th.int _
          · rw [e]; exact ky.th kw hw
        · refine .inr ⟨q, kvs, k', rfl, rfl, hq13, fun e => by rw [e] at lk; simp at lk; omega, rfl, Go.put pot g13' nqH, by rw [upd_ne nbq]; exact hb13, fun z2 => by omega, fun _ => ?_⟩
          exact .inr (.inl ⟨q, _, rfl, off_at nqa upd_same (fun _ z => nomatch z), by omega, by omega⟩)
      rintro σ' H12 ⟨rfl, t12⟩
      refine ⟨fun σ' H' => σ' = [some (.ref a), some (.int (m : Int)), some (.ref p), some (.ref q), some (.ref b), some (.int way), Option.none] ∧ Turn K a q b u m kvs H way 3 H', ?_, ?_⟩
      · refine ⟨_, rfl, rfl, _, rfl, ?_⟩
        refine ite2 (fun z => ?_) (fun z => ⟨rfl, skip (no z) t12⟩)
        have w2 := yes z
        obtain ⟨g12, hb12, hq12, _⟩ := t12
        have hq12 := hq12 (by omega)
        refine ⟨_, rfl, _, rfl, by show 1 ≤ sizeLine; decide, fun t1 n1 => ⟨Nat.zero_le _, fun l0 n0 => ⟨by show 6 ≤ sizeLine; decide, fun l nl => ?_⟩⟩⟩
        have x1 := Ext.upd (o := .tup [.int 1]) n1
        have x2 := Ext.upd (o := .lst []) n0
        have h1 := x2 _ _ (upd_same (H := H12) (a := t1) (o := .tup [.int 1]))
        have h2 := upd_same (H := upd H12 t1 (.tup [.int 1])) (a := l0) (o := .lst [])
        have ex : Ext H12 _ := x1.trans x2
        have nl0 : l0 ≠ a := fun e => by
          have := (PotAt.upd (o := .tup [.int 1]) g12.1 n1).ne n0
          exact this e.symm
        generalize upd (upd H12 t1 (.tup [.int 1])) l0 (.lst []) = H13 at *
        have g13 := Go.of_ext g12.1 ex
        refine ⟨a, l, _, rfl, g13.1.upd nl, (g13.1.ne nl).symm, upd_same, by simp, by show 6 ≤ 1000; decide, fun x H14 hx g14 => ?_⟩
        have gn := Go.new (o := .lst [.int (-1), .non, .bl true, .str "1", .ref t1, .ref l0]) g13.1 nl
        have hq14 := g14.2 _ _ nqa (Ext.upd nl _ _ (ex _ _ hq12))
        have hb14 := g14.tup gn.1 (Ext.upd nl _ _ (ex _ _ hb12))
        have ht14 := g14.tup gn.1 (Ext.upd nl _ _ h1)
        have hl14 := g14.2 _ _ nl0 (Ext.upd nl _ _ h2)
        refine ⟨_, rfl, _, rfl, q, _, rfl, DPut.t (k := kS u) hq14 (by rw [kS_vals]; exact hb14) (by rw [sizeLine_eq]; omega), rfl, Go.put pot (((g12.trans g13).trans gn).trans g14) nqH, by rw [upd_ne nbq]; exact hb14, fun z2 => by omega, fun _ => ?_⟩
        have ntq : t1 ≠ q := tup_dT hq14 ht14
        have nlq : l0 ≠ q := (lst_dT hl14 hq14).symm
        have nta : t1 ≠ a := pot_no g14.1 ht14 fun _ z => nomatch z
        have thx : Th K (Off a (upd H14 q (.dT (putK kvs (kS u) x)))) 0 x ∧ ∀ i : Int, 0 ≤ i → x ≠ .int i := by
          simp only [List.mem_cons, List.not_mem_nil, or_false] at hx
          rcases hx with rfl | rfl | rfl | rfl | rfl | rfl
          · exact ⟨Th.int _, fun i h e => by injection e with e; omega⟩
          · exact ⟨Th.non, fun i h e => nomatch e⟩
          · exact ⟨Th.bl _, fun i h e => nomatch e⟩
          · exact ⟨Th.str _, fun i h e => nomatch e⟩
          · exact ⟨Th.tup0 (off_at nta (by rw [upd_ne ntq]; exact ht14) (fun _ z => nomatch z)), fun i h e => nomatch e⟩
          · exact ⟨Th.lst (off_at nl0 (by rw [upd_ne nlq]; exact hl14) (fun _ z => nomatch z)), fun i h e => nomatch e⟩
        refine .inr (.inr (.inr ⟨q, _, rfl, off_at nqa upd_same (fun _ z => nomatch z), fun kv hk => ?_, put_bad hu thx.2⟩))
        rcases put_mem hk with e | ⟨kw, hw, e⟩
        · rw [e]; exact thx.1
        · rw [e]; exact ky.th kw hw
      rintro σ' H13 ⟨rfl, t13⟩
      refine ⟨fun σ' H' => σ' = [some (.ref a), some (.int (m : Int)), some (.ref p), some (.ref q), some (.ref b), some (.int way), Option.none] ∧ Turn K a q b u m kvs H way 3 H' ∧ way ≠ 3, ?_, ?_⟩
      · refine ⟨_, rfl, rfl, _, rfl, ?_⟩
        refine ite2 (fun z => ?_) (fun z => ⟨rfl, t13, no z⟩)
        have g13 := t13.1
        have hp13 := g13.2 _ _ npa hp
        refine ⟨_, rfl, Nat.zero_le _, fun t1 n1 => ⟨Nat.zero_le _, fun l0 n0 => ⟨_, rfl, .inr (.inr (.inl ⟨rfl, .inr ⟨kvs, Ext.upd n0 _ _ (Ext.upd n1 _ _ hp13)⟩⟩)), p, kvs, rfl, rfl, Ext.upd n0 _ _ (Ext.upd n1 _ _ hp13), fun v nv => ?_⟩⟩⟩
        refine ⟨v, p, kvs, rfl, upd_same, Ext.upd nv _ _ (Ext.upd n0 _ _ (Ext.upd n1 _ _ hp13)), ky.ints, by omega, fun l1 ys nl1 => ?_⟩
        have x1 := Ext.upd (o := .tup []) n1
        have x2 := Ext.upd (o := .lst []) n0
        have x3 := Ext.upd (o := DX.itemsO v p) nv
        have x4 := Ext.upd (o := .lst ys) nl1
        have p1 := g13.1.upd (o := .tup []) n1
        have p2 := p1.upd (o := .lst []) n0
        have p3 := p2.upd (o := DX.itemsO v p) nv
        have h1 := x4 _ _ (x3 _ _ (x2 _ _ (upd_same (H := H13) (a := t1) (o := .tup []))))
        have h2 := x4 _ _ (x3 _ _ (upd_same (H := upd H13 t1 (.tup [])) (a := l0) (o := .lst [])))
        have h3 := upd_same (H := upd (upd (upd H13 t1 (.tup [])) l0 (.lst [])) v (DX.itemsO v p)) (a := l1) (o := .lst ys)
        have ex : Ext H13 _ := x1.trans (x2.trans (x3.trans x4))
        have n0a := (p1.ne n0).symm
        have n1a := (p3.ne nl1).symm
        generalize upd (upd (upd (upd H13 t1 (.tup [])) l0 (.lst [])) v (DX.itemsO v p)) l1 (.lst ys) = H14 at *
        have g14 := Go.of_ext g13.1 ex
        refine ⟨_, rfl, a, rfl, g14.1, fun z9 H15 g15 nd9 => ⟨by show 6 ≤ sizeLine; decide, fun l nl => ?_⟩⟩
        refine ⟨a, l, _, rfl, g15.1.upd nl, (g15.1.ne nl).symm, upd_same, by simp, by show 6 ≤ 1000; decide, fun x H16 hx g16 => ?_⟩
        have gn := Go.new (o := .lst [.non, .ref t1, .ref l0, .ref l1, .int 0, z9]) g15.1 nl
        have gH := (((g13.trans g14).trans g15).trans gn).trans g16
        have t1' := g16.tup gn.1 (Ext.upd nl _ _ (g15.tup g14.1 h1))
        have l0' := g16.2 _ _ n0a (Ext.upd nl _ _ (g15.2 _ _ n0a h2))
        have l1' := g16.2 _ _ n1a (Ext.upd nl _ _ (g15.2 _ _ n1a h3))
        refine k x H16 gH (NoDW.bad ?_)
        simp only [List.mem_cons, List.not_mem_nil, or_false] at hx
        rcases hx with rfl | rfl | rfl | rfl | rfl | rfl
        · exact NoDW.non
        · exact NoDW.tup (off_at (pot_no g16.1 t1' fun _ z => nomatch z) t1' fun _ z => nomatch z)
        · exact NoDW.lst (off_at n0a l0' fun _ z => nomatch z)
        · exact NoDW.lst (off_at n1a l1' fun _ z => nomatch z)
        · exact NoDW.int _
        · exact nd9.ext (gn.trans g16).off
      rintro σ' H14 ⟨rfl, t14, w3⟩
      refine ⟨_, rfl, _, _, rfl, rfl, _, rfl, ?_⟩
      refine ite2 (fun z => ?_) (fun z => ?_)
      · have := of_decide_eq_true z
        exact ⟨_, rfl, k _ _ t14.1 (t14.2.2.2 this)⟩
      · refine fun d nd => k _ _ (t14.1.trans (Go.new t14.1.1 nd)) (NoDW.bad (NoDW.dct (off_at (t14.1.1.ne nd).symm upd_same fun _ z => nomatch z)))
end
end R36

set_option Elab.async false
set_option linter.all false
set_option maxRecDepth 100000
set_option maxHeartbeats 8000000
set_option pp.maxSteps 60
/-! The law. -/
namespace R36
open PySem L2 LamX
abbrev sLaw : Stmt := top 25
abbrev lamQ : Str := (("law" : Str) ++ ".<locals>.") ++ "<lambda>"
theorem lay_ints : ∀ l : List Int, PyData.canLayAll0 (l.map .int) = true ∧ PyData.depthAll (l.map .int) = 0
  | [] => ⟨by simp [PyData.canLayAll0], by simp [PyData.depthAll]⟩
  | x :: l => by
    obtain ⟨h, g⟩ := lay_ints l
    exact ⟨by simp [PyData.canLayAll0, PyData.canLay0, h], by simp [PyData.depthAll, PyData.depth, g]⟩
theorem lay_lists : ∀ l : List (List Int), PyData.canLayAll0 (l.map fun l => .tuple (l.map .int)) = true ∧ PyData.depthAll (l.map fun l => .tuple (l.map .int)) ≤ 1
  | [] => ⟨by simp [PyData.canLayAll0], by simp [PyData.depthAll]⟩
  | x :: l => by
    obtain ⟨h, g⟩ := lay_lists l
    obtain ⟨h1, g1⟩ := lay_ints x
    refine ⟨by simp [PyData.canLayAll0, PyData.canLay0, h, h1], ?_⟩
    simp only [List.map_cons, PyData.depthAll, PyData.depth, g1]
    omega
theorem dp_ints {K : PySem.W.Frag} {H : Hp} : ∀ l : List Int, DpAll K H (l.map V.int) (l.map .int)
  | [] => .nil
  | x :: l => .cons (.int x) (dp_ints l)
theorem dp_lists {K : PySem.W.Frag} {H : Hp} : ∀ {as : List Addr} {ll : List (List Int)}, PT2 H as ll → DpAll K H (as.map V.ref) (ll.map fun l => .tuple (l.map .int))
  | _, _, .nil => .nil
  | _, _, .cons h r => .cons (.tup (SqT.of h) (dp_ints _)) (dp_lists r)
def dataT : List Int ⊕ List (List Int) → PyData
  | .inl l => .tuple [.str "none", .int (l.getD 0 0), .int (l.getD 1 0)]
  | .inr acc => .tuple [.str "bars", .tuple (acc.map fun l => .tuple (l.map .int))]
theorem told_dp {K : PySem.W.Frag} {H : Hp} {r : Addr} : ∀ {o : List Int ⊕ List (List Int)}, Told H r o → Dp K H (.ref r) (dataT o)
  | .inl l, h => .tup (SqT.of h) (.cons (.str _) (.cons (.int _) (.cons (.int _) .nil)))
  | .inr acc, ⟨q, as, h1, h2, h3⟩ => .tup (SqT.of h1) (.cons (.str _) (.cons (.tup (SqT.of h2) (dp_lists h3)) .nil))
theorem told_sh : ∀ o : List Int ⊕ List (List Int), SeqAt.shaped (dataT o) = true
  | .inl l => by simp [dataT, SeqAt.shaped, PyData.canLay0, PyData.canLayAll0, PyData.depth, PyData.depthAll]; decide +kernel
  | .inr acc => by
    obtain ⟨h, g⟩ := lay_lists acc
    refine Bool.and_eq_true_iff.mpr ⟨?_, decide_eq_true ?_⟩
    · simp only [dataT, PyData.canLay0, PyData.canLayAll0, h, Bool.and_true]
      decide +kernel
    · simp only [dataT, PyData.depth, PyData.depthAll]
      omega
theorem told_eq (o : List Int ⊕ List (List Int)) : PyData.eqv (dataT o) (dataT o) = true := SeqAt.eqv_refl _ (SeqAt.canLay_of_shaped (told_sh o))
theorem told_same {K : PySem.W.Frag} {H : Hp} {r r2 : Addr} {o : List Int ⊕ List (List Int)} {Q : VK} (h1 : Told H r o) (h2 : Told H r2 o) (h : Q (.bl false) H) : rNeD K (.ref r) (.ref r2) H Q := by
  refine ⟨_, _, told_dp h1, told_dp h2, told_sh o, told_sh o, ?_⟩
  rw [told_eq]
  exact h
theorem two_words {K : PySem.W.Frag} {H : Hp} {p q : Addr} {Q : VK} (h1 : H p = some (.lst [.str "reaches", .str "number"])) (h2 : H q = some (.lst [.str "reaches", .str "number"])) (h : Q (.bl false) H) : rNeD K (.ref p) (.ref q) H Q :=
  ⟨.list [.str "reaches", .str "number"], .list [.str "reaches", .str "number"], .lst (SqL.of h1) (.cons (.str _) (.cons (.str _) .nil)), .lst (SqL.of h2) (.cons (.str _) (.cons (.str _) .nil)), by decide +kernel, by decide +kernel, h⟩
theorem PotAt.extN {H H' : Hp} {a : Addr} (e : ExtN H H') (p : PotAt H a) : PotAt H' a := by
  obtain ⟨c, ns, i, z, s, n, h1, h2⟩ := p
  exact ⟨c, ns, i, z, s, n, e _ _ h1 (fun _ z => nomatch z), e _ _ h2 (fun _ z => nomatch z)⟩
theorem Tabs.go {a : Addr} {T : List (Addr × Str)} {H H' : Hp} (p : PotAt H a) (g : Go a H H') (t : Tabs T H) : Tabs T H' := fun q hq => by
  obtain ⟨ps, h1, h2, h3⟩ := t q hq
  refine ⟨ps, g.2 _ _ (pot_no p h1 fun _ z => nomatch z) h1, h2, fun pos cv hc => ?_⟩
  obtain ⟨c, e1, e2⟩ := h3 pos cv hc
  exact ⟨c, e1, g.2 _ _ (pot_no p e2 fun _ z => nomatch z) e2⟩
theorem Tabs.put {T : List (Addr × Str)} {H : Hp} {l : Addr} {xs ys : List V} (hl : H l = some (.lst xs)) (t : Tabs T H) : Tabs T (upd H l (.lst ys)) := fun q hq => by
  obtain ⟨ps, h1, h2, h3⟩ := t q hq
  have n1 : q.1 ≠ l := fun e => by rw [e, hl] at h1; cases h1
  refine ⟨ps, by rw [upd_ne n1]; exact h1, h2, fun pos cv hc => ?_⟩
  obtain ⟨c, e1, e2⟩ := h3 pos cv hc
  have n2 : c ≠ l := fun e => by rw [e, hl] at e2; cases e2
  exact ⟨c, e1, by rw [upd_ne n2]; exact e2⟩
theorem extN_put {H H' : Hp} {l : Addr} {o : HO} (e : ExtN H H') (f : ∀ b u, H b = some u → (∀ ps, u ≠ .tbl ps) → b ≠ l) : ExtN H (upd H' l o) := fun b u h n => by
  rw [upd_ne (f b u h n)]
  exact e b u h n
theorem bars_bad {K : PySem.W.Frag} {NN NR : Addr} {H : Hp} {m : Nat} {y : V} {Q : VK} {E : XK} (m1 : 1 ≤ m) (m8 : m ≤ 8) (h : BadR K H m y) (k : ∀ H', Ext H H' → E (.ref NR) none H') : spBars K NN NR [.int (m : Int), y] H Q E := by
  refine ⟨_, _, rfl, .inr ⟨m, rfl, m1, m8, ?_⟩⟩
  rcases h with ⟨t, a, b⟩ | ⟨p, n, a, b, c, d⟩ | ⟨p, a, b⟩ | ⟨p, kvs, a, b, c, d⟩
  · exact .inl ⟨t, a, b, k⟩
  · exact .inr (.inl ⟨p, n, a, b, c, d, k⟩)
  · exact .inr (.inr (.inl ⟨p, a, b, k⟩))
  · exact .inr (.inr (.inr (.inl ⟨p, kvs, a, b, c, d, k⟩)))
theorem bars_num {K : PySem.W.Frag} {NN NR : Addr} {H : Hp} {x y : V} {Q : VK} {E : XK} (h : Th K H 0 x) (no : ∀ i : Int, x = .int i → ¬ (1 ≤ i ∧ i ≤ 8)) (k : ∀ H', Ext H H' → E (.ref NN) none H') : spBars K NN NR [x, y] H Q E :=
  ⟨x, y, rfl, .inl ⟨h, no, k⟩⟩
/-- what a turn of the law stands on -/
structure Wd (r p f : Addr) (kvs : List (List Key × V)) (m : Nat) (H : Hp) : Prop where
  pot : PotAt H r
  hp : H p = some (.dT kvs)
  ft : Told H f (outL kvs (strL m) [])
theorem Wd.ext {r p f : Addr} {kvs : List (List Key × V)} {m : Nat} {H H' : Hp} (e : Ext H H') (h : Wd r p f kvs m H) : Wd r p f kvs m H' := ⟨(Go.of_ext h.pot e).1, e _ _ h.hp, h.ft.ext e⟩
structure LawC (mg : Str → Option Value) : Prop where
  any : mg "any" = none
/-- the parts of what is told: none is a flag -/
theorem told_parts {K : PySem.W.Frag} {H : Hp} {f : Addr} : ∀ {o : List Int ⊕ List (List Int)}, Told H f o → ∃ xs, H f = some (.tup xs) ∧ xs.length ≤ 3 ∧ ∀ x ∈ xs, ∃ t, TyX K H x t ∧ PySem.W.kitOne K t (.type "bool") = some false
  | .inl l, h => ⟨_, h, Nat.le_refl 3, fun x hx => by
    simp only [List.mem_cons, List.not_mem_nil, or_false] at hx
    rcases hx with rfl | rfl | rfl
    · exact ⟨_, .base (.str _), kit_ty (show kitB "str" "bool" = some false by decide +kernel)⟩
    · exact ⟨_, .base (.int _), kit_ty (show kitB "int" "bool" = some false by decide +kernel)⟩
    · exact ⟨_, .base (.int _), kit_ty (show kitB "int" "bool" = some false by decide +kernel)⟩⟩
  | .inr acc, ⟨q, as, h1, h2, h3⟩ => ⟨_, h1, (by show 2 ≤ 3; decide), fun x hx => by
    simp only [List.mem_cons, List.not_mem_nil, or_false] at hx
    rcases hx with rfl | rfl
    · exact ⟨_, .base (.str _), kit_ty (show kitB "str" "bool" = some false by decide +kernel)⟩
    · exact ⟨_, .base (.tup h2), kit_ty (show kitB "tuple" "bool" = some false by decide +kernel)⟩⟩
def spLaw (K : PySem.W.Frag) (PL : Addr) : Sp := fun vs H Q _ => ∃ (a : Addr) (ns : List Int), vs = [.ref a] ∧ SqL K H a (ns.map V.int) ∧ ns.length ≤ 63 ∧ H PL = some (.tbl #[]) ∧ ∀ H', Q (.bl true) H'
abbrev lawN : List Str := ["script", "purse", "turn", "told", "put", "found", "said", "bad", "many", "odd", "part"]
section
variable {P : Program} {w : World} {K : PySem.W.Frag} {mg : Str → Option Value} {base : Heap}
theorem scLaw : FnScope lawN ["script"] (defScope sLaw) := ⟨rfl, rfl, rfl, by decide +kernel, rfl, by decide +kernel, by decide +kernel⟩
/-- a def whose code object is known -/
theorem fn_at {x qual : Str} {st : Stmt} {f : Addr} {N ps : List Str} {k : Nat} {sp : Sp} {oc : Value} {od an : Option Addr} {osl : Array (Option Value)} {kV doc pm cdv ct : Value} (lk : K.lookup f = some ⟨oc, od, .func (PySem.W.fnOf x qual (defArgs st) (defBody st) (defScope st) .none kV doc pm an cdv ct), osl⟩)
    (hcd : PySem.W.codeIn K cdv qual = true) (S : FnScope N ps (defScope st)) (len : ∀ vs H Q E, sp vs H Q E → vs.length = ps.length)
    (body : ∀ (A : Around) (outer : List Env) (s : Shared) (H : Hp) (vs : List V) (Q : VK) (E : XK), Room k (A.deeper (PyProof.Rows.envOfC qual (defScope st) s.heap.objs.size f cdv)) → sp vs H Q E → ∃ t, PSs (cxOf CX0 P w K mg base N qual (defScope st) f cdv A outer s H E).nox (defBody st) t ∧ t { nx := fun _ H' => Q .non H', rt := Q } (L2.start N vs) H) :
    FnOk P w K mg base CX0 (k + 1) f (PySem.W.fnOf x qual (defArgs st) (defBody st) (defScope st) .none kV doc pm an cdv ct) ps sp :=
  fn_of lk hcd S len fun A outer s H vs Q E hr h => (body A outer s H vs Q E hr h).imp fun _ z => ⟨z.1.nox, z.2⟩
theorem ok_law {f fw fB NN NR CE fI cL PL : Addr} {fdB : FuncData} {oc ow : Value} {od an odw anw : Option Addr} {osl slw : Array (Option Value)} {kV doc pm ct kVw docw pmw cdvw ctw : Value}
    (lk : K.lookup f = some ⟨oc, od, .func (PySem.W.fnOf "law" "law" (defArgs sLaw) (defBody sLaw) (defScope sLaw) .none kV doc pm an (.ref cL) ct), osl⟩) (hcd : PySem.W.codeIn K (.ref cL) "law" = true) (TB : TabB base mg cL PL)
    (T : Gb mg) (M : LawC mg) (WC : WordC K mg NN NR CE fI)
    (cP : Cal P w K mg base 1 "_law_purse" (spPurse K) []) (cD : Cal P w K mg base 1 "_law_part" spDraw []) (cA : Cal P w K mg base 2 "_law_one" spAny []) (cT : Cal P w K mg base 3 "_law_told" spTold []) (cU : Cal P w K mg base 3 "_law_due" spDue []) (cN : Cal P w K mg base 4 "_law_no_reaches" (spNoR K) [])
    (FB : FnOk P w K mg base (L2.CX P w) 3 fB fdB ["many", "told"] (spBars K NN NR)) (mB : mg "bars_told" = some (.ref fB)) (kB : PySem.W.keepIn K (.ref fB) = true) (bB : Binds K fdB ["many", "told"] [])
    (lw : K.lookup fw = some ⟨ow, odw, .func (PySem.W.fnOf "_law_word" "_law_word" (defArgs sWord) (defBody sWord) (defScope sWord) .none kVw docw pmw anw cdvw ctw), slw⟩) (cdw : PySem.W.codeIn K cdvw "_law_word" = true) (mw : mg "_law_word" = some (.ref fw)) (kw : PySem.W.keepIn K (.ref fw) = true)
    (bw : Binds K (PySem.W.fnOf "_law_word" "_law_word" (defArgs sWord) (defBody sWord) (defScope sWord) .none kVw docw pmw anw cdvw ctw) ["call"] []) :
    FnOk P w K mg base CX0 7 f (PySem.W.fnOf "law" "law" (defArgs sLaw) (defBody sLaw) (defScope sLaw) .none kV doc pm an (.ref cL) ct) ["script"] (spLaw K PL) := by
  refine fn_at lk hcd scLaw (fun vs H Q E h => ?_) (fun A outer s H vs Q E hr h => ?_)
  · obtain ⟨a, ns, rfl, _⟩ := h
    rfl
  · obtain ⟨s0, ns, rfl, hS, hlen, hPL, k⟩ := h
    have hr3 : Room 3 _ := hr.mono (by decide)
    refine ⟨_, pss_cons (ps_set (i := 1) scLaw.nd rfl (Or.inl rfl) (C8.pe_c cP hr (by decide) (by rfl) (pa_cons (pv 0) pa_nil)))
      (pss_cons (ps_for PassesOwn.never rfl (pi_range1 (by rfl) T.rng (pa_cons pe_int pa_nil)) (pg_name (i := 2) scLaw.nd rfl (Or.inl rfl))
      (pss_cons (ps_set (i := 8) scLaw.nd rfl (Or.inr rfl) (pe_op op_add pe_int (C8.pe_c cD hr (by decide) (by rfl) (pa_cons (pv 1) (pa_cons pe_int pa_nil)))))
      (pss_cons (ps_asg (C8.pe_c cT hr (by decide) (by rfl) (pa_cons (pv 1) (pa_cons (pv 8) pa_nil))) (pg_tup rfl (pgs_cons (pg_name (i := 3) scLaw.nd rfl (Or.inl rfl)) (pgs_cons (pg_name (i := 4) scLaw.nd rfl (Or.inl rfl)) pgs_nil))))
      (pss_cons (ps_set (i := 5) scLaw.nd rfl (Or.inl rfl) (pe_call FB hr3 (by rfl) mB kB bB .nil passL (pa_cons (pv 8) (pa_cons (pv 3) pa_nil))))
      (C8.pss_cut (ps_if (PW.pt (pw_or (pt_cmpR (op_neD hr.units) (pv 5) (C8.pe_c cU hr (by decide) (by rfl) (pa_cons (pv 8) (pa_cons (pv 3) pa_nil))) (nomark _)) (pw_or1 (PW.pt (pw_and (pt_cmpR op_notN (pv 4) pe_non (nomark _)) (pw_and1 (pt_cmpR (op_neD hr.units) (pv 5) (pe_tup (pa_cons pe_str (pa_cons (pv 4) pa_nil))) (nomark _)))))))) (pss_one (ps_ret pe_bl)) pss_nil)
      (C8.pss_cut (ps_if (PW.pt (pw_or (pt_not (pt_val (pe_callB call_isi (by rfl) T.isi (by decide +kernel) (pa_cons (pv 5) (pa_cons (pe_bltn (v := .ty "tuple") (by rfl) T.tup (by decide +kernel) rfl) pa_nil))))) (pw_or1 (pt_val (pe_callB (cr_any rfl) (by rfl) M.any (by decide +kernel) (pa_cons (pe_lc (own := [("part", 10)]) (g := gName 10) (tt := tYes) rfl scLaw.nd (pi_tup (pv 5)) (blkOk_by (N := lawN) (sc := defScope sLaw) (by decide +kernel)) (fun _ _ _ _ _ => (pg_name (i := 10) scLaw.nd rfl (Or.inl rfl))) (fun _ _ _ _ _ => pts_nil) (fun _ _ _ _ _ => (pe_callB (r := rIsi K) call_isi (by rfl) T.isi (by decide +kernel) (pa_cons (pv 10) (pa_cons (pe_bltn (v := .ty "bool") (by rfl) T.bool (by decide +kernel) rfl) pa_nil))))) pa_nil)))))) (pss_one (ps_ret pe_bl)) pss_nil)
      (pss_cons (ps_asg (pe_tup (pa_cons (C8.pe_c cN hr (by decide) (by rfl) (pa_cons (pv 1) (pa_cons (pv 8) (pa_cons (pv 3) pa_nil)))) (pa_cons (C8.pe_c cA hr (by decide) (by rfl) (pa_cons (pv 1) (pa_cons (pe_lst (pa_cons pe_int (pa_cons pe_int (pa_cons (pe_un un_neg pe_int) (pa_cons (pe_op op_pow pe_int pe_int) (pa_cons pe_non (pa_cons pe_bl (pa_cons pe_str (pa_cons (pe_lst (pa_cons pe_int pa_nil)) pa_nil))))))))) pa_nil))) pa_nil))) (pg_tup rfl (pgs_cons (pg_name (i := 7) scLaw.nd rfl (Or.inr rfl)) (pgs_cons (pg_name (i := 9) scLaw.nd rfl (Or.inr rfl)) pgs_nil))))
      (pss_cons (ps_set (i := 6) scLaw.nd rfl (Or.inl rfl) (pe_lst (pa_cons (pe_lamcall (T := [(PL, lamQ)]) (TT := TTword NN NR) (a := "call") (k := 4) (t := fun E => tCall (spBars K NN NR) [] E (tCons (tVar 8) (tCons (tVar 7) tNil))) (by rfl) mw kw lw cdw bw scWord rfl (Or.inl rfl) (word_gives T WC) TB rfl (List.mem_singleton.mpr rfl) (fun p hp _ => by rw [List.mem_singleton.mp hp] <;> rfl) hr (lamS_by (sc := defScope sLaw) (by decide +kernel)) rfl (fun _ _ _ _ _ => rfl)
          (fun A outer s H E f c' hr' => pe_call FB (hr'.mono (by decide)) (by rfl) mB kB bB .nil (passes_call (takes_of rfl rfl rfl rfl) (fun _ _ _ _ h => h)) (pa_cons (pv 8) (pa_cons (pv 7) pa_nil)))) pa_nil)))
      (pss_cons (ps_expr (pe_bm PySem.F.plainAttrs_list PySem.F.slot_list_append PySem.F.type_list_append mt_append (pv 6) (pa_cons (pe_lamcall (T := [(PL, lamQ)]) (TT := TTword NN NR) (a := "call") (k := 4) (t := fun E => tCall (spBars K NN NR) [] E (tCons (tVar 9) (tCons (tVar 7) tNil))) (by rfl) mw kw lw cdw bw scWord rfl (Or.inl rfl) (word_gives T WC) TB rfl (List.mem_singleton.mpr rfl) (fun p hp _ => by rw [List.mem_singleton.mp hp] <;> rfl) hr (lamS_by (sc := defScope sLaw) (by decide +kernel)) rfl (fun _ _ _ _ _ => rfl)
          (fun A outer s H E f c' hr' => pe_call FB (hr'.mono (by decide)) (by rfl) mB kB bB .nil (passes_call (takes_of rfl rfl rfl rfl) (fun _ _ _ _ h => h)) (pa_cons (pv 9) (pa_cons (pv 7) pa_nil)))) pa_nil)))
      (pss_one (ps_if (pt_cmpR (op_neD hr.units) (pv 6) (pe_lst (pa_cons pe_str (pa_cons pe_str pa_nil))) (nomark _)) (pss_one (ps_ret pe_bl)) pss_nil)))))))))))
      (pss_one (ps_ret pe_bl))), ?_⟩
    refine ⟨_, rfl, s0, ns, rfl, hS, hlen, fun r H1 e1 pot => ?_⟩
    have tb1 : Tabs [(PL, lamQ)] H1 := fun q hq => by
      rw [List.mem_singleton.mp hq]
      exact TabS.nil (e1 _ _ hPL)
    refine ⟨5, rfl, by decide, by decide, for_range (lo := 0) (n := 5) (fun i σ' H' => (∃ v2 v3 v4 v5 v6 v7 v8 v9 : Option V, σ' = [some (.ref s0), some (.ref r), v2, v3, v4, v5, v6, v7, v8, v9, Option.none]) ∧ PotAt H' r ∧ Tabs [(PL, lamQ)] H') ⟨⟨_, _, _, _, _, _, _, _, rfl⟩, pot, tb1⟩ ?_ (fun σ' H' _ => k H')⟩
    rintro i σ' H' hi ⟨⟨v2, v3, v4, v5, v6, v7, v8, v9, rfl⟩, pot', tb⟩
    refine ⟨_, rfl, r, 8, rfl, pot', by decide, by decide, fun n H2 n0 n8 g2 => ⟨_, _, rfl, rfl, ?_⟩⟩
    obtain ⟨m, em⟩ : ∃ m : Nat, 1 + n = (m : Int) := ⟨(1 + n).toNat, by omega⟩
    have m1 : 1 ≤ m := by omega
    have m8 : m ≤ 8 := by omega
    show gName 8 (V.int (1 + n)) _ _ _
    rw [em]
    refine ⟨_, rfl, _, rfl, r, m, rfl, g2.1, m1, m8, fun t p kvs y H3 g3 ht hp ky hy => ⟨t, _, rfl, SqT.of ht, rfl, _, _, rfl, _, _, rfl, rfl, ?_⟩⟩
    have tb3 := Tabs.go g2.1 g3 (Tabs.go pot' g2 tb)
    refine ⟨_, rfl, _, rfl, _, _, rfl, .inr ⟨m, rfl, m1, m8, .inr (.inr (.inr (.inr ⟨p, kvs, rfl, hp, ky.allI, ky.good, fun f H4 e4 ft => ?_⟩)))⟩⟩
    have wd4 : Wd r p f kvs m H4 := ⟨(Go.of_ext g3.1 e4).1, e4 _ _ hp, ft⟩
    have tb4 := tb3.ext e4
    refine ⟨fun σ'' H'' => σ'' = [some (.ref s0), some (.ref r), some (.int (0 + (i : Nat))), some (.ref p), some y, some (.ref f), v6, v7, some (.int (m : Int)), v9, Option.none] ∧ Wd r p f kvs m H'' ∧ Tabs [(PL, lamQ)] H'', ?_, ?_⟩
    · refine ⟨_, rfl, _, rfl, _, rfl, m, p, kvs, rfl, m1, m8, wd4.hp, ky.allI, ky.good, fun f2 H5 e5 ft2 => ?_⟩
      have wd5 := wd4.ext e5
      refine told_same wd5.ft ft2 ⟨_, rfl, ?_⟩
      refine iteF ?_
      rcases hy with rfl | ⟨q, as, Z, rfl, hq, pz, eo⟩
      · refine ⟨_, rfl, rfl, _, rfl, ?_⟩
        exact iteF (iteF ⟨rfl, wd5, tb4.ext e5⟩)
      · refine ⟨_, rfl, rfl, _, rfl, ?_⟩
        refine iteT ⟨_, rfl, _, rfl, by show 2 ≤ sizeLine; decide, fun t2 n2 => ?_⟩
        have e35 := e4.trans e5
        have x2 := Ext.upd (o := .tup [.str "bars", .ref q]) n2
        have wd6 := wd5.ext x2
        refine told_same (r2 := t2) wd6.ft ?_ ⟨_, rfl, iteF ⟨rfl, wd6, (tb4.ext e5).ext x2⟩⟩
        rw [eo]
        exact ⟨q, as, upd_same, x2 _ _ (e35 _ _ hq), PT2.mono (fun _ _ z => x2 _ _ (e35 _ _ z)) pz⟩
    rintro σ'' H5 ⟨rfl, wd5, tb5⟩
    refine ⟨fun σ'' H'' => σ'' = [some (.ref s0), some (.ref r), some (.int (0 + (i : Nat))), some (.ref p), some y, some (.ref f), v6, v7, some (.int (m : Int)), v9, Option.none] ∧ Wd r p f kvs m H'' ∧ Tabs [(PL, lamQ)] H'', ?_, ?_⟩
    · obtain ⟨xs, hf, l3, fl⟩ := told_parts (K := K) wd5.ft
      refine ⟨_, rfl, _, .ty "tuple", _, .type "tuple", true, rfl, .ty _, .base (.tup hf), kit_ty (by decide +kernel), _, rfl, ?_⟩
      refine iteF ?_
      refine ⟨_, rfl, f, rfl, ⟨_, SqT.of hf⟩, fun D nD => ?_⟩
      refine lc_tup (K := K) (a := f) (xs := xs) (fun i H'' => H'' = upd H5 D (.lst ((List.replicate i false).map V.bl))) (by simp) (fun i H'' _ q => by rw [q]; exact SqT.of (Ext.upd nD _ _ hf)) ?_ ?_
      · rintro i x H'' hx rfl
        obtain ⟨t, ty, kt⟩ := fl x (List.mem_of_getElem? hx)
        have li := (List.getElem?_eq_some_iff.mp hx).1
        refine ⟨rfl, tyes_in ⟨_, rfl, x, .ty "bool", t, .type "bool", false, rfl, .ty _, TyX.ext ty (Ext.upd nD), kt, ⟨_, upd_same, small1000 (by rw [List.length_map, List.length_replicate]; omega), ?_⟩⟩⟩
        rw [upd_upd, List.replicate_succ', List.map_append]
        rfl
      · rintro H'' rfl
        refine ⟨D, List.replicate xs.length false, rfl, SqL.of upd_same, _, rfl, ?_⟩
        have e : (List.replicate xs.length false).any id = false := by simp
        rw [e]
        have ex := Ext.upd (o := .lst ((List.replicate xs.length false).map V.bl)) nD
        exact iteF ⟨rfl, wd5.ext ex, tb5.ext ex⟩
    rintro σ'' H6 ⟨rfl, wd6, tb6⟩
    refine ⟨_, rfl, _, rfl, _, rfl, r, p, m, kvs, rfl, wd6.pot, m1, m8, wd6.hp, ky, fun x H7 g7 bad => ?_⟩
    have tb7 := Tabs.go wd6.pot g7 tb6
    refine ⟨_, rfl, _, rfl, _, _, rfl, rfl, ⟨by decide, by decide, by decide⟩, by show 1 ≤ sizeLine; decide, fun l1 n1 => ⟨by show 8 ≤ sizeLine; decide, fun l nl => ?_⟩⟩
    have p1 := g7.1.upd (o := .lst [.int 1]) n1
    have g8 := Go.new (o := .lst [.int 1]) g7.1 n1
    have g9 := g8.trans (Go.new (o := .lst [.int 0, .int 9, .int (-1), .int (10 ^ 11), .non, .bl true, .str "1", .ref l1]) p1 nl)
    refine ⟨r, l, _, rfl, g9.1, (p1.ne nl).symm, upd_same, by simp, by show 8 ≤ 1000; decide, fun z H8 hz g10 => ⟨by show 2 ≤ sizeLine; decide, fun t2 n2 => ?_⟩⟩
    have n1r : l1 ≠ r := (g7.1.ne n1).symm
    have hl1 : H8 l1 = some (.lst [.int 1]) := g10.2 _ _ n1r (Ext.upd nl _ _ upd_same)
    have thz : Th K (Off r H8) 0 z ∧ ∀ i : Int, z = .int i → ¬ (1 ≤ i ∧ i ≤ 8) := by
      simp only [List.mem_cons, List.not_mem_nil, or_false] at hz
      rcases hz with rfl | rfl | rfl | rfl | rfl | rfl | rfl | rfl
      · exact ⟨Th.int _, fun i e => by injection e with e; omega⟩
      · exact ⟨Th.int _, fun i e => by injection e with e; omega⟩
      · exact ⟨Th.int _, fun i e => by injection e with e; omega⟩
      · exact ⟨Th.int _, fun i e => by injection e with e; rw [← e]; decide⟩
      · exact ⟨Th.non, fun i e => nomatch e⟩
      · exact ⟨Th.bl _, fun i e => nomatch e⟩
      · exact ⟨Th.str _, fun i e => nomatch e⟩
      · exact ⟨Th.lst (off_at n1r hl1 fun _ z => nomatch z), fun i e => nomatch e⟩
    have tb8 := Tabs.go g9.1 g10 (Tabs.go g7.1 g9 tb7)
    have x9 := Ext.upd (o := .tup [x, z]) n2
    have bad8 : BadR K (Off r H8) m x := bad.ext (g9.trans g10).off
    refine ⟨t2, _, rfl, SqT.of upd_same, rfl, _, _, rfl, _, _, rfl, rfl, ?_⟩
    have tb9 := tb8.ext x9
    have pot9 := g10.1.upd (o := .tup [x, z]) n2
    have o9 : Ext (Off r H8) (upd H8 t2 (.tup [x, z])) := fun b o h => x9 _ _ (off_le b o h)
    have on : ∀ {Hx : Hp}, ExtN (upd H8 t2 (.tup [x, z])) Hx → Ext (Off r H8) Hx := fun e b o h => e b o (o9 b o h) (off_some h).2.2
    generalize upd H8 t2 (.tup [x, z]) = H9 at *
    refine ⟨tb9, fun H15 x15 tb15 => ⟨_, rfl, _, rfl, ?_⟩⟩
    dsimp only [tNil]
    refine bars_bad m1 m8 (bad8.ext (on x15)) fun H16 e16 => ⟨rfl, .inr ⟨rfl, fun H17 e17 => ⟨by show 1 ≤ sizeLine; decide, fun l9 nl9 => ?_⟩⟩⟩
    have x17 := x15.trans (ExtN.of (e16.trans e17))
    have fr : ∀ b u, H9 b = some u → (∀ ps, u ≠ .tbl ps) → b ≠ l9 := fun b u h n => ne_of_none (x17 _ _ h n) nl9
    have x18 := extN_put (o := .lst [.str "reaches"]) x17 fr
    have tb18 := (tb15.ext (e16.trans e17)).ext (Ext.upd (o := .lst [.str "reaches"]) nl9)
    have hl18 : (upd H17 l9 (.lst [.str "reaches"])) l9 = some (.lst [.str "reaches"]) := upd_same
    generalize upd H17 l9 (.lst [.str "reaches"]) = H18 at *
    refine ⟨_, rfl, .inl ⟨rfl, _, SqL.of hl18⟩, tb18, fun H19 x19 tb19 => ?_⟩
    have y19 := x18.trans x19
    refine ⟨_, rfl, _, rfl, ?_⟩
    dsimp only [tNil]
    refine bars_num (thz.1.ext (on y19)) thz.2 fun H20 e20 => ⟨rfl, .inl ⟨rfl, fun H21 e21 => ?_⟩⟩
    have y21 := y19.trans (ExtN.of (e20.trans e21))
    have hl21 : H21 l9 = some (.lst [.str "reaches"]) := (e20.trans e21) _ _ (x19 _ _ hl18 fun _ z => by cases z)
    refine ⟨l9, _, _, rfl, rfl, hl21, by decide, ?_⟩
    have x22 := extN_put (o := .lst ([.str "reaches"] ++ [.str "number"])) y21 fr
    have tb22 := Tabs.put (ys := [.str "reaches"] ++ [.str "number"]) hl21 (tb19.ext (e20.trans e21))
    have hl22 : (upd H21 l9 (.lst ([.str "reaches"] ++ [.str "number"]))) l9 = some (.lst [.str "reaches", .str "number"]) := upd_same
    generalize upd H21 l9 (.lst ([.str "reaches"] ++ [.str "number"])) = H22 at *
    refine ⟨_, rfl, by show 2 ≤ sizeLine; decide, fun l3 nl3 => ?_⟩
    have e23 := Ext.upd (o := .lst [.str "reaches", .str "number"]) nl3
    refine two_words (e23 _ _ hl22) upd_same ⟨_, rfl, ?_⟩
    exact iteF ⟨⟨_, _, _, _, _, _, _, _, rfl⟩, (PotAt.extN x22 pot9).upd nl3, tb22.ext e23⟩
end
end R36

set_option Elab.async false
set_option linter.all false
set_option maxRecDepth 100000
set_option maxHeartbeats 8000000
namespace R36
open PySem L2 LamX
theorem exm_self {K : PySem.W.Frag} {S : Addr} (h1 : PySem.W.subIn K (.ref S) (.type "BaseException") = some true) (h2 : PySem.W.isClsIn K S = true) (h3 : PySem.W.typeIn K (.ref S) = some (.type "type")) (h4 : PySem.W.subIn K (.ref S) (.ref S) = some true) :
    PySem.W.exmOne K (.ref S) (.ref S) = some true := by
  have h2' : (PySem.W.clsIn K S).isSome = true := h2
  unfold PySem.W.exmOne PySem.W.kitCls
  simp only [h1, h2', h3, h4, beq_self_eq_true, Bool.and_self, if_true]
theorem kit_ref {K : PySem.W.Frag} {t : Value} {C : Addr} {b : Bool} (h2 : PySem.W.isClsIn K C = true) (h3 : PySem.W.typeIn K (.ref C) = some (.type "type")) (h4 : PySem.W.subIn K (.ref C) (.ref C) = some true) (h5 : PySem.W.subIn K t (.ref C) = some b) :
    PySem.W.kitOne K t (.ref C) = some b := by
  have h2' : (PySem.W.clsIn K C).isSome = true := h2
  unfold PySem.W.kitOne PySem.W.kitCls
  by_cases e : (t == .ref C) = true
  · have e' := beq_iff_eq.mp e
    subst e'
    rw [h4] at h5
    rw [if_pos e, ← h5]
  · rw [if_neg e]
    simp only [h2', h3, h5, beq_self_eq_true, Bool.and_self, if_true]
theorem kit_tyc {K : PySem.W.Frag} {C : Addr} {s : String} {b : Bool} (h : PySem.W.kitMeta s = true) (h5 : PySem.W.subIn K (.ref C) (.type s) = some b) : PySem.W.kitOne K (.ref C) (.type s) = some b := by
  unfold PySem.W.kitOne PySem.W.kitCls
  rw [if_neg (by intro z; exact nomatch beq_iff_eq.mp z)]
  simp only [h, h5, if_true]
theorem exm_ref {K : PySem.W.Frag} {t : Value} {S : Addr} {b : Bool} (h1 : PySem.W.subIn K (.ref S) (.type "BaseException") = some true) (h2 : PySem.W.isClsIn K S = true) (h3 : PySem.W.typeIn K (.ref S) = some (.type "type")) (h4 : PySem.W.subIn K t (.ref S) = some b) :
    PySem.W.exmOne K t (.ref S) = some b := by
  have h2' : (PySem.W.clsIn K S).isSome = true := h2
  unfold PySem.W.exmOne PySem.W.kitCls
  simp only [h1, h2', h3, h4, beq_self_eq_true, Bool.and_self, if_true]
theorem all_mk {l : PySem.W.OpenLaw} {w : World} {K : PySem.W.Frag} {h : Heap} {mg : Str → Option Value} {fa : Addr} {NN NR CE f1 f2 f9 f10 f11 f12 f14 f15 f16 f17 f18 f19 f20 f21 f22 f23 f24 f25 fI cL PL : Addr} (X : K.In h) (G : h.Ns mainGlobals mg) (hfa : mg "law" = some (.ref fa))
    {oc1 kV1 dc1 pm1 cd1 ct1 : Value} {od1 an1 : Option Addr} {sl1 : Array (Option Value)}
    {oc2 kV2 dc2 pm2 cd2 ct2 : Value} {od2 an2 : Option Addr} {sl2 : Array (Option Value)}
    {oc9 kV9 dc9 pm9 cd9 ct9 : Value} {od9 an9 : Option Addr} {sl9 : Array (Option Value)}
    {oc10 kV10 dc10 pm10 cd10 ct10 : Value} {od10 an10 : Option Addr} {sl10 : Array (Option Value)}
    {oc11 kV11 dc11 pm11 cd11 ct11 : Value} {od11 an11 : Option Addr} {sl11 : Array (Option Value)}
    {oc12 kV12 dc12 pm12 cd12 ct12 : Value} {od12 an12 : Option Addr} {sl12 : Array (Option Value)}
    {oc14 kV14 dc14 pm14 cd14 ct14 : Value} {od14 an14 : Option Addr} {sl14 : Array (Option Value)}
    {oc15 kV15 dc15 pm15 cd15 ct15 : Value} {od15 an15 : Option Addr} {sl15 : Array (Option Value)}
    {oc16 kV16 dc16 pm16 cd16 ct16 : Value} {od16 an16 : Option Addr} {sl16 : Array (Option Value)}
    {oc17 kV17 dc17 pm17 cd17 ct17 : Value} {od17 an17 : Option Addr} {sl17 : Array (Option Value)}
    {oc18 kV18 dc18 pm18 cd18 ct18 : Value} {od18 an18 : Option Addr} {sl18 : Array (Option Value)}
    {oc19 kV19 dc19 pm19 cd19 ct19 : Value} {od19 an19 : Option Addr} {sl19 : Array (Option Value)}
    {oc20 kV20 dc20 pm20 cd20 ct20 : Value} {od20 an20 : Option Addr} {sl20 : Array (Option Value)}
    {oc21 kV21 dc21 pm21 cd21 ct21 : Value} {od21 an21 : Option Addr} {sl21 : Array (Option Value)}
    {oc22 kV22 dc22 pm22 cd22 ct22 : Value} {od22 an22 : Option Addr} {sl22 : Array (Option Value)}
    {oc23 kV23 dc23 pm23 cd23 ct23 : Value} {od23 an23 : Option Addr} {sl23 : Array (Option Value)}
    {oc24 kV24 dc24 pm24 cd24 ct24 : Value} {od24 an24 : Option Addr} {sl24 : Array (Option Value)}
    {oc25 kV25 dc25 pm25 ct25 : Value} {od25 an25 : Option Addr} {sl25 : Array (Option Value)}
    {ocI kVI dcI pmI cdI ctI : Value} {odI anI : Option Addr} {slI : Array (Option Value)}
    {tMOST_PLACES}
    {nmNN qNN : Str} {NNN : Addr} {bsNN bmNN : List Value} {snNN : List Str} {subNN : List Value} {abNN : Bool} {colNN : Option Bool} {ddNN : Option Addr} {m0NN m1NN m2NN m3NN m5NN : Option Value}
    {nmNR qNR : Str} {NNR : Addr} {bsNR bmNR : List Value} {snNR : List Str} {subNR : List Value} {abNR : Bool} {colNR : Option Bool} {ddNR : Option Addr} {m0NR m1NR m2NR m3NR m5NR : Option Value}
    (gNN : PySem.W.nsIn K mainGlobals "NoNumber" = some (some (.ref NN)))
    (gNR : PySem.W.nsIn K mainGlobals "NoReaches" = some (some (.ref NR)))
    (gCE : PySem.W.nsIn K mainGlobals "WebError" = some (some (.ref CE)))
    (a1 : PySem.W.nsIn K mainGlobals "is_integer" = some (some (.ref f1)))
    (l1 : K.lookup f1 = some ⟨oc1, od1, .func (PySem.W.fnOf "is_integer" "is_integer" (defArgs sInteger) (defBody sInteger) (defScope sInteger) .none kV1 dc1 pm1 an1 cd1 ct1), sl1⟩)
    (c1 : PySem.W.codeIn K cd1 "is_integer" = true)
    (k1 : PySem.W.keepIn K (.ref f1) = true)
    (a2 : PySem.W.nsIn K mainGlobals "is_number" = some (some (.ref f2)))
    (l2 : K.lookup f2 = some ⟨oc2, od2, .func (PySem.W.fnOf "is_number" "is_number" (defArgs sNumber) (defBody sNumber) (defScope sNumber) .none kV2 dc2 pm2 an2 cd2 ct2), sl2⟩)
    (c2 : PySem.W.codeIn K cd2 "is_number" = true)
    (k2 : PySem.W.keepIn K (.ref f2) = true)
    (a9 : PySem.W.nsIn K mainGlobals "stretches" = some (some (.ref f9)))
    (l9 : K.lookup f9 = some ⟨oc9, od9, .func (PySem.W.fnOf "stretches" "stretches" (defArgs sStr) (defBody sStr) (defScope sStr) .none kV9 dc9 pm9 an9 cd9 ct9), sl9⟩)
    (c9 : PySem.W.codeIn K cd9 "stretches" = true)
    (k9 : PySem.W.keepIn K (.ref f9) = true)
    (a10 : PySem.W.nsIn K mainGlobals "is_reaches" = some (some (.ref f10)))
    (l10 : K.lookup f10 = some ⟨oc10, od10, .func (PySem.W.fnOf "is_reaches" "is_reaches" (defArgs sReach) (defBody sReach) (defScope sReach) .none kV10 dc10 pm10 an10 cd10 ct10), sl10⟩)
    (c10 : PySem.W.codeIn K cd10 "is_reaches" = true)
    (k10 : PySem.W.keepIn K (.ref f10) = true)
    (a11 : PySem.W.nsIn K mainGlobals "count_told" = some (some (.ref f11)))
    (l11 : K.lookup f11 = some ⟨oc11, od11, .func (PySem.W.fnOf "count_told" "count_told" (defArgs sCount) (defBody sCount) (defScope sCount) .none kV11 dc11 pm11 an11 cd11 ct11), sl11⟩)
    (c11 : PySem.W.codeIn K cd11 "count_told" = true)
    (k11 : PySem.W.keepIn K (.ref f11) = true)
    (a12 : PySem.W.nsIn K mainGlobals "bars_told" = some (some (.ref f12)))
    (l12 : K.lookup f12 = some ⟨oc12, od12, .func (PySem.W.fnOf "bars_told" "bars_told" (defArgs sBars) (defBody sBars) (defScope sBars) .none kV12 dc12 pm12 an12 cd12 ct12), sl12⟩)
    (c12 : PySem.W.codeIn K cd12 "bars_told" = true)
    (k12 : PySem.W.keepIn K (.ref f12) = true)
    (a14 : PySem.W.nsIn K mainGlobals "_law_purse" = some (some (.ref f14)))
    (l14 : K.lookup f14 = some ⟨oc14, od14, .func (PySem.W.fnOf "_law_purse" "_law_purse" (defArgs sPurse) (defBody sPurse) (defScope sPurse) .none kV14 dc14 pm14 an14 cd14 ct14), sl14⟩)
    (c14 : PySem.W.codeIn K cd14 "_law_purse" = true)
    (k14 : PySem.W.keepIn K (.ref f14) = true)
    (a15 : PySem.W.nsIn K mainGlobals "_law_part" = some (some (.ref f15)))
    (l15 : K.lookup f15 = some ⟨oc15, od15, .func (PySem.W.fnOf "_law_part" "_law_part" (defArgs sDraw) (defBody sDraw) (defScope sDraw) .none kV15 dc15 pm15 an15 cd15 ct15), sl15⟩)
    (c15 : PySem.W.codeIn K cd15 "_law_part" = true)
    (k15 : PySem.W.keepIn K (.ref f15) = true)
    (a16 : PySem.W.nsIn K mainGlobals "_law_one" = some (some (.ref f16)))
    (l16 : K.lookup f16 = some ⟨oc16, od16, .func (PySem.W.fnOf "_law_one" "_law_one" (defArgs sAny) (defBody sAny) (defScope sAny) .none kV16 dc16 pm16 an16 cd16 ct16), sl16⟩)
    (c16 : PySem.W.codeIn K cd16 "_law_one" = true)
    (k16 : PySem.W.keepIn K (.ref f16) = true)
    (a17 : PySem.W.nsIn K mainGlobals "_law_stretches" = some (some (.ref f17)))
    (l17 : K.lookup f17 = some ⟨oc17, od17, .func (PySem.W.fnOf "_law_stretches" "_law_stretches" (defArgs sLStr) (defBody sLStr) (defScope sLStr) .none kV17 dc17 pm17 an17 cd17 ct17), sl17⟩)
    (c17 : PySem.W.codeIn K cd17 "_law_stretches" = true)
    (k17 : PySem.W.keepIn K (.ref f17) = true)
    (a18 : PySem.W.nsIn K mainGlobals "_law_pairs" = some (some (.ref f18)))
    (l18 : K.lookup f18 = some ⟨oc18, od18, .func (PySem.W.fnOf "_law_pairs" "_law_pairs" (defArgs sPairs) (defBody sPairs) (defScope sPairs) .none kV18 dc18 pm18 an18 cd18 ct18), sl18⟩)
    (c18 : PySem.W.codeIn K cd18 "_law_pairs" = true)
    (k18 : PySem.W.keepIn K (.ref f18) = true)
    (a19 : PySem.W.nsIn K mainGlobals "_law_deep" = some (some (.ref f19)))
    (l19 : K.lookup f19 = some ⟨oc19, od19, .func (PySem.W.fnOf "_law_deep" "_law_deep" (defArgs sDeep) (defBody sDeep) (defScope sDeep) .none kV19 dc19 pm19 an19 cd19 ct19), sl19⟩)
    (c19 : PySem.W.codeIn K cd19 "_law_deep" = true)
    (k19 : PySem.W.keepIn K (.ref f19) = true)
    (a20 : PySem.W.nsIn K mainGlobals "_law_odd" = some (some (.ref f20)))
    (l20 : K.lookup f20 = some ⟨oc20, od20, .func (PySem.W.fnOf "_law_odd" "_law_odd" (defArgs sOdd) (defBody sOdd) (defScope sOdd) .none kV20 dc20 pm20 an20 cd20 ct20), sl20⟩)
    (c20 : PySem.W.codeIn K cd20 "_law_odd" = true)
    (k20 : PySem.W.keepIn K (.ref f20) = true)
    (a21 : PySem.W.nsIn K mainGlobals "_law_word" = some (some (.ref f21)))
    (l21 : K.lookup f21 = some ⟨oc21, od21, .func (PySem.W.fnOf "_law_word" "_law_word" (defArgs sWord) (defBody sWord) (defScope sWord) .none kV21 dc21 pm21 an21 cd21 ct21), sl21⟩)
    (c21 : PySem.W.codeIn K cd21 "_law_word" = true)
    (k21 : PySem.W.keepIn K (.ref f21) = true)
    (a22 : PySem.W.nsIn K mainGlobals "_law_due" = some (some (.ref f22)))
    (l22 : K.lookup f22 = some ⟨oc22, od22, .func (PySem.W.fnOf "_law_due" "_law_due" (defArgs sDue) (defBody sDue) (defScope sDue) .none kV22 dc22 pm22 an22 cd22 ct22), sl22⟩)
    (c22 : PySem.W.codeIn K cd22 "_law_due" = true)
    (k22 : PySem.W.keepIn K (.ref f22) = true)
    (a23 : PySem.W.nsIn K mainGlobals "_law_told" = some (some (.ref f23)))
    (l23 : K.lookup f23 = some ⟨oc23, od23, .func (PySem.W.fnOf "_law_told" "_law_told" (defArgs sTold) (defBody sTold) (defScope sTold) .none kV23 dc23 pm23 an23 cd23 ct23), sl23⟩)
    (c23 : PySem.W.codeIn K cd23 "_law_told" = true)
    (k23 : PySem.W.keepIn K (.ref f23) = true)
    (a24 : PySem.W.nsIn K mainGlobals "_law_no_reaches" = some (some (.ref f24)))
    (l24 : K.lookup f24 = some ⟨oc24, od24, .func (PySem.W.fnOf "_law_no_reaches" "_law_no_reaches" (defArgs sNoR) (defBody sNoR) (defScope sNoR) .none kV24 dc24 pm24 an24 cd24 ct24), sl24⟩)
    (c24 : PySem.W.codeIn K cd24 "_law_no_reaches" = true)
    (k24 : PySem.W.keepIn K (.ref f24) = true)
    (a25 : PySem.W.nsIn K mainGlobals "law" = some (some (.ref f25)))
    (l25 : K.lookup f25 = some ⟨oc25, od25, .func (PySem.W.fnOf "law" "law" (defArgs sLaw) (defBody sLaw) (defScope sLaw) .none kV25 dc25 pm25 an25 (.ref cL) ct25), sl25⟩)
    (c25 : PySem.W.codeIn K (.ref cL) "law" = true)
    (k25 : PySem.W.keepIn K (.ref f25) = true)
    (aI : PySem.W.findIn K (.ref NN) "__init__" = some (some (.ref fI)))
    (iI : PySem.W.isFn K (.ref fI) = true)
    (lI : K.lookup fI = some ⟨ocI, odI, .func (PySem.W.fnOf "__init__" "WebError.__init__" (defArgs sWE) (defBody sWE) (defScope sWE) .none kVI dcI pmI anI cdI ctI), slI⟩)
    (cI : PySem.W.codeIn K cdI "WebError.__init__" = true)
    (kI : PySem.W.keepIn K (.ref fI) = true)
    (tI : PySem.W.typeIn K (.ref fI) = some (.type "function"))
    (aINR : PySem.W.findIn K (.ref NR) "__init__" = some (some (.ref fI)))
    (hn : PySem.W.specialIn K (.builtin "object.__class__") "__get__" = some (some (.builtin "getset_descriptor.__get__")))
    (ht : PySem.W.takesIn K (.builtin "object.__class__") = some true)
    (vMOST_PLACES : PySem.W.nsIn K mainGlobals "MOST_PLACES" = some (some (.int 8 tMOST_PLACES)))
    (xLNN : K.lookup NN = some (excClassObj nmNN qNN NN NNN bsNN bmNN true snNN subNN abNN colNN ddNN m0NN m1NN m2NN m3NN m5NN "ValueError.__new__"))
    (xbNN : PySem.HandSPX.refsVE bmNN = true)
    (seNN : PySem.W.findIn K (.ref NN) "__setattr__" = some (some (.builtin "object.__setattr__")))
    (keNN : PySem.W.keepIn K (.ref NN) = true)
    (heNN : PySem.W.hasDictIn K NN = true)
    (gaNN : PySem.W.findIn K (.ref NN) "__getattribute__" = some (some (.builtin "BaseException.__getattribute__")))
    (ggNN : PySem.W.findIn K (.ref NN) "__getattr__" = some none)
    (hxNN : PySem.W.findIn K (.ref NN) "__class__" = some (some (.builtin "object.__class__")))
    (myNN : PySem.W.mroIn K NN (.type "object") = some true)
    (exNN : PySem.W.subIn K (.ref NN) (.type "BaseException") = some true)
    (ieNN : PySem.W.isClsIn K NN = true)
    (teNN : PySem.W.typeIn K (.ref NN) = some (.type "type"))
    (ssNN : PySem.W.subIn K (.ref NN) (.ref NN) = some true)
    (xLNR : K.lookup NR = some (excClassObj nmNR qNR NR NNR bsNR bmNR true snNR subNR abNR colNR ddNR m0NR m1NR m2NR m3NR m5NR "ValueError.__new__"))
    (xbNR : PySem.HandSPX.refsVE bmNR = true)
    (seNR : PySem.W.findIn K (.ref NR) "__setattr__" = some (some (.builtin "object.__setattr__")))
    (keNR : PySem.W.keepIn K (.ref NR) = true)
    (heNR : PySem.W.hasDictIn K NR = true)
    (gaNR : PySem.W.findIn K (.ref NR) "__getattribute__" = some (some (.builtin "BaseException.__getattribute__")))
    (ggNR : PySem.W.findIn K (.ref NR) "__getattr__" = some none)
    (hxNR : PySem.W.findIn K (.ref NR) "__class__" = some (some (.builtin "object.__class__")))
    (myNR : PySem.W.mroIn K NR (.type "object") = some true)
    (exNR : PySem.W.subIn K (.ref NR) (.type "BaseException") = some true)
    (ieNR : PySem.W.isClsIn K NR = true)
    (teNR : PySem.W.typeIn K (.ref NR) = some (.type "type"))
    (ssNR : PySem.W.subIn K (.ref NR) (.ref NR) = some true)
    (exCE : PySem.W.subIn K (.ref CE) (.type "BaseException") = some true)
    (ieCE : PySem.W.isClsIn K CE = true)
    (teCE : PySem.W.typeIn K (.ref CE) = some (.type "type"))
    (ssCE : PySem.W.subIn K (.ref CE) (.ref CE) = some true)
    (sNE : PySem.W.subIn K (.ref NN) (.ref CE) = some true)
    (sRE : PySem.W.subIn K (.ref NR) (.ref CE) = some true)
    (sNV : PySem.W.subIn K (.ref NN) (.type "ValueError") = some true)
    (sRV : PySem.W.subIn K (.ref NR) (.type "ValueError") = some true)
    (sNR : PySem.W.subIn K (.ref NN) (.ref NR) = some false)
    (sRN : PySem.W.subIn K (.ref NR) (.ref NN) = some false)
    (zlen : PySem.W.nsIn K mainGlobals "len" = some none)
    (zint : PySem.W.nsIn K mainGlobals "int" = some none)
    (zbool : PySem.W.nsIn K mainGlobals "bool" = some none)
    (zisinstance : PySem.W.nsIn K mainGlobals "isinstance" = some none)
    (ztuple : PySem.W.nsIn K mainGlobals "tuple" = some none)
    (zall : PySem.W.nsIn K mainGlobals "all" = some none)
    (zenumerate : PySem.W.nsIn K mainGlobals "enumerate" = some none)
    (zlist : PySem.W.nsIn K mainGlobals "list" = some none)
    (zrange : PySem.W.nsIn K mainGlobals "range" = some none)
    (zmin : PySem.W.nsIn K mainGlobals "min" = some none)
    (zmax : PySem.W.nsIn K mainGlobals "max" = some none)
    (zsorted : PySem.W.nsIn K mainGlobals "sorted" = some none)
    (zset : PySem.W.nsIn K mainGlobals "set" = some none)
    (zstr : PySem.W.nsIn K mainGlobals "str" = some none)
    (zabs : PySem.W.nsIn K mainGlobals "abs" = some none)
    (zValueError : PySem.W.nsIn K mainGlobals "ValueError" = some none)
    (zsum : PySem.W.nsIn K mainGlobals "sum" = some none)
    (zdict : PySem.W.nsIn K mainGlobals "dict" = some none)
    (zany : PySem.W.nsIn K mainGlobals "any" = some none)
    (hP : h.get? PL = some { cls := .none, data := .fields #[] })
    (nP : K.lookup PL = none)
    (hC : PySem.W.codeHdIn K cL PL = true) :
    LawAtS l w K CX0 7 63 "script" mg fa h := by
  have e := hfa.symm.trans (PySem.W.mg_of X G a25)
  cases e
  have F1 := fun_mk (st := sInteger) l1 c1 k1
  have b1 := F1.binds (ps := ["thing"]) fun _ _ _ _ _ _ us hl => match us, hl with | [_], _ => rfl
  have F2 := fun_mk (st := sNumber) l2 c2 k2
  have b2 := F2.binds (ps := ["most", "thing"]) fun _ _ _ _ _ _ us hl => match us, hl with | [_, _], _ => rfl
  have F9 := fun_mk (st := sStr) l9 c9 k9
  have b9 := F9.binds (ps := ["many"]) fun _ _ _ _ _ _ us hl => match us, hl with | [_], _ => rfl
  have F10 := fun_mk (st := sReach) l10 c10 k10
  have b10 := F10.binds (ps := ["many", "thing"]) fun _ _ _ _ _ _ us hl => match us, hl with | [_, _], _ => rfl
  have F11 := fun_mk (st := sCount) l11 c11 k11
  have b11 := F11.binds (ps := ["told", "begin", "end"]) fun _ _ _ _ _ _ us hl => match us, hl with | [_, _, _], _ => rfl
  have F12 := fun_mk (st := sBars) l12 c12 k12
  have b12 := F12.binds (ps := ["many", "told"]) fun _ _ _ _ _ _ us hl => match us, hl with | [_, _], _ => rfl
  have F14 := fun_mk (st := sPurse) l14 c14 k14
  have b14 := F14.binds (ps := ["script"]) fun _ _ _ _ _ _ us hl => match us, hl with | [_], _ => rfl
  have F15 := fun_mk (st := sDraw) l15 c15 k15
  have b15 := F15.binds (ps := ["purse", "many"]) fun _ _ _ _ _ _ us hl => match us, hl with | [_, _], _ => rfl
  have F16 := fun_mk (st := sAny) l16 c16 k16
  have b16 := F16.binds (ps := ["purse", "some"]) fun _ _ _ _ _ _ us hl => match us, hl with | [_, _], _ => rfl
  have F17 := fun_mk (st := sLStr) l17 c17 k17
  have b17 := F17.binds (ps := ["many"]) fun _ _ _ _ _ _ us hl => match us, hl with | [_], _ => rfl
  have F18 := fun_mk (st := sPairs) l18 c18 k18
  have b18 := F18.binds (ps := ["many"]) fun _ _ _ _ _ _ us hl => match us, hl with | [_], _ => rfl
  have F19 := fun_mk (st := sDeep) l19 c19 k19
  have b19 := F19.binds (ps := ["many"]) fun _ _ _ _ _ _ us hl => match us, hl with | [_], _ => rfl
  have F20 := fun_mk (st := sOdd) l20 c20 k20
  have b20 := F20.binds (ps := ["purse"]) fun _ _ _ _ _ _ us hl => match us, hl with | [_], _ => rfl
  have F21 := fun_mk (st := sWord) l21 c21 k21
  have b21 := F21.binds (ps := ["call"]) fun _ _ _ _ _ _ us hl => match us, hl with | [_], _ => rfl
  have F22 := fun_mk (st := sDue) l22 c22 k22
  have b22 := F22.binds (ps := ["many", "told"]) fun _ _ _ _ _ _ us hl => match us, hl with | [_, _], _ => rfl
  have F23 := fun_mk (st := sTold) l23 c23 k23
  have b23 := F23.binds (ps := ["purse", "many"]) fun _ _ _ _ _ _ us hl => match us, hl with | [_, _], _ => rfl
  have F24 := fun_mk (st := sNoR) l24 c24 k24
  have b24 := F24.binds (ps := ["purse", "many", "told"]) fun _ _ _ _ _ _ us hl => match us, hl with | [_, _, _], _ => rfl
  have F25 := fun_mk (st := sLaw) l25 c25 k25
  have b25 := F25.binds (ps := ["script"]) fun _ _ _ _ _ _ us hl => match us, hl with | [_], _ => rfl
  have FI := fun_mk (st := sWE) lI cI kI
  have bI := FI.binds (ps := ["self"]) fun _ _ _ _ _ _ us hl => match us, hl with | [_], _ => rfl
  have nn : ∀ {x : Str}, PySem.W.nsIn K mainGlobals x = some none → mg x = none := fun z => PySem.W.mg_none_of X G z
  have T : Gb mg := ⟨nn zlen, nn zint, nn zbool, nn zisinstance, nn ztuple, nn zall, nn zenumerate, nn zlist, nn zrange, nn zmin, nn zmax, nn zsorted, nn zset, nn zstr, nn zabs, nn zValueError⟩
  have M : DictC mg := ⟨nn zdict, nn zsum⟩
  have N1 : ErrC K mg "NoNumber" NN fI := ⟨⟨⟨nmNN, qNN, NNN, bsNN, bmNN, snNN, subNN, abNN, colNN, ddNN, m0NN, m1NN, m2NN, m3NN, m5NN, xLNN, xbNN⟩, seNN, exNN, teNN, keNN⟩, aI, tI, PySem.W.mg_of X G gNN, ⟨ieNN, gaNN, ggNN, exNN, hxNN, hn, ht, myNN⟩⟩
  have N2 : ErrC K mg "NoReaches" NR fI := ⟨⟨⟨nmNR, qNR, NNR, bsNR, bmNR, snNR, subNR, abNR, colNR, ddNR, m0NR, m1NR, m2NR, m3NR, m5NR, xLNR, xbNR⟩, seNR, exNR, teNR, keNR⟩, aINR, tI, PySem.W.mg_of X G gNR, ⟨ieNR, gaNR, ggNR, exNR, hxNR, hn, ht, myNR⟩⟩
  have WC : WordC K mg NN NR CE fI := ⟨N1, N2, PySem.W.mg_of X G gCE, exm_ref exCE ieCE teCE sNE, exm_ref exCE ieCE teCE sRE, kit_tyc (by decide +kernel) sNV, kit_tyc (by decide +kernel) sRV, kit_ref ieNR teNR ssNR sNR, kit_ref ieNN teNN ssNN sRN⟩
  refine ⟨PySem.W.fnOf "law" "law" (defArgs sLaw) (defBody sLaw) (defScope sLaw) .none kV25 dc25 pm25 an25 (.ref cL) ct25, [(cL, PL)], spLaw K PL, fun p hp => by rw [List.mem_singleton.mp hp]; exact hP, fun p hp => by rw [List.mem_singleton.mp hp]; exact nP, fun p hp => by rw [List.mem_singleton.mp hp]; exact PySem.W.codeHd_of_K X hC, fun s v => .of_eq rfl, fun H a ns hl _ hT hS => ⟨a, ns, rfl, hS, hl, hT _ (List.mem_singleton.mpr rfl), fun _ => rfl⟩, fun base _ _ hTB => ?_⟩
  have TB := hTB (cL, PL) (List.mem_singleton.mpr rfl)
  have cInt : Cal l.prog w K mg base 1 "is_integer" (spInteger K) [] := ⟨⟨f1, _, _, [], ok_integer F1 T, PySem.W.mg_of X G a1, k1, b1, .nil⟩⟩
  have cNum : Cal l.prog w K mg base 2 "is_number" (spNumber K) [] := ⟨⟨f2, _, _, [], ok_number F2 cInt, PySem.W.mg_of X G a2, k2, b2, .nil⟩⟩
  have cStr : Cal l.prog w K mg base 1 "stretches" spStr [] := ⟨⟨f9, _, _, [], ok_str F9 T, PySem.W.mg_of X G a9, k9, b9, .nil⟩⟩
  have cRe : Cal l.prog w K mg base 2 "is_reaches" (spReach K) [] := ⟨⟨f10, _, _, [], ok_reach F10 T M.dict cStr cInt, PySem.W.mg_of X G a10, k10, b10, .nil⟩⟩
  have cCo : Cal l.prog w K mg base 1 "count_told" spCount [] := ⟨⟨f11, _, _, [], ok_count F11, PySem.W.mg_of X G a11, k11, b11, .nil⟩⟩
  have GI : FnOk l.prog w K mg base CX0 1 fI _ ["self"] spF0 := ok_we FI
  have FB : FnOk l.prog w K mg base (L2.CX l.prog w) 3 f12 _ ["many", "told"] (spBars K NN NR) := ok_bars F12 T ⟨_, PySem.W.mg_of X G vMOST_PLACES⟩ N1 N2 GI bI cNum cRe cStr cCo
  have cPu : Cal l.prog w K mg base 1 "_law_purse" (spPurse K) [] := ⟨⟨f14, _, _, [], ok_purse F14 T, PySem.W.mg_of X G a14, k14, b14, .nil⟩⟩
  have cD : Cal l.prog w K mg base 1 "_law_part" spDraw [] := ⟨⟨f15, _, _, [], ok_draw F15 ⟨T.len, T.int⟩, PySem.W.mg_of X G a15, k15, b15, .nil⟩⟩
  have cA : Cal l.prog w K mg base 2 "_law_one" spAny [] := ⟨⟨f16, _, _, [], ok_any F16 T cD, PySem.W.mg_of X G a16, k16, b16, .nil⟩⟩
  have cPa : Cal l.prog w K mg base 1 "_law_pairs" spPairs [] := ⟨⟨f18, _, _, [], ok_pairs F18 T, PySem.W.mg_of X G a18, k18, b18, .nil⟩⟩
  have cLS : Cal l.prog w K mg base 2 "_law_stretches" spStr [] := ⟨⟨f17, _, _, [], ok_lstr F17 cPa, PySem.W.mg_of X G a17, k17, b17, .nil⟩⟩
  have cDp : Cal l.prog w K mg base 1 "_law_deep" spDeep [] := ⟨⟨f19, _, _, [], ok_deep F19 T, PySem.W.mg_of X G a19, k19, b19, .nil⟩⟩
  have cOd : Cal l.prog w K mg base 3 "_law_odd" (spOddN K) [] := ⟨⟨f20, _, _, [], ok_oddN F20 T cA cDp, PySem.W.mg_of X G a20, k20, b20, .nil⟩⟩
  have cDu : Cal l.prog w K mg base 3 "_law_due" spDue [] := ⟨⟨f22, _, _, [], ok_due F22 T cLS, PySem.W.mg_of X G a22, k22, b22, .nil⟩⟩
  have cTo : Cal l.prog w K mg base 3 "_law_told" spTold [] := ⟨⟨f23, _, _, [], ok_told F23 T M cD cA cLS, PySem.W.mg_of X G a23, k23, b23, .nil⟩⟩
  have cNo : Cal l.prog w K mg base 4 "_law_no_reaches" (spNoR K) [] := ⟨⟨f24, _, _, [], ok_noR F24 T M cD cA cLS cOd, PySem.W.mg_of X G a24, k24, b24, .nil⟩⟩
  exact ok_law l25 c25 TB T ⟨nn zany⟩ WC cPu cD cA cTo cDu cNo FB (PySem.W.mg_of X G a12) k12 b12 l21 c21 (PySem.W.mg_of X G a21) k21 b21
theorem walk {l : PySem.W.OpenLaw} {q : Program} {loose : List Str} {XP : (Str → Option Value) → Heap → Prop} {YP : World → Heap → Prop} {d : DefRec} {K : Params → PySem.W.Frag} (hn : l.most = some 63) (hdf : d.params.defaults = []) (hY : ∀ (w : World) (h : Heap), YP w h → (K w.params).In h)
    (F : ∀ (w : World) (mg : Str → Option Value) (fa : Addr) (h : Heap), YP w h → (K w.params).In h → h.Ns mainGlobals mg → mg d.name = some (.ref fa) → LawAtS l w (K w.params) CX0 7 63 "script" mg fa h) :
    PySem.W.WalkO q loose XP YP l.row.toRowW d [] (fun f vs => PySem.call f vs) :=
  walk_ofTs (n := 63) (k := 7) (x := "script") (CX := fun _ => CX0) hn (by decide) hdf ⟨rfl, by decide, by decide⟩ hY F fun _ _ _ _ _ z => z
end R36

set_option Elab.async false
set_option linter.all false
open PySem PySem.W PyProof.Rows
set_option maxRecDepth 100000 in
set_option maxHeartbeats 0 in
theorem PySem.Challenge.cw_mapwebs_k36_whole_reaches_told_by_strang_holds : PySem.Challenge.rw_mapwebs_k36_whole_reaches_told_by_strang.Holds := by
  w_on; o_law; k_head; (case hw => w_witness2)
  k_fill
  refine R36.walk (l := PySem.Challenge.rw_mapwebs_k36_whole_reaches_told_by_strang) rfl rfl (fun w h Y => PySem.W.km_in_of Y) ?F
  case F =>
    intro w mg fa h Y KX G hmg
    have hT := PySem.W.km_tabs_of Y
    refine' R36.all_mk KX G hmg ?gNN ?gNR ?gCE ?a1 ?l1 ?c1 ?k1 ?a2 ?l2 ?c2 ?k2 ?a9 ?l9 ?c9 ?k9 ?a10 ?l10 ?c10 ?k10 ?a11 ?l11 ?c11 ?k11 ?a12 ?l12 ?c12 ?k12 ?a14 ?l14 ?c14 ?k14 ?a15 ?l15 ?c15 ?k15 ?a16 ?l16 ?c16 ?k16 ?a17 ?l17 ?c17 ?k17 ?a18 ?l18 ?c18 ?k18 ?a19 ?l19 ?c19 ?k19 ?a20 ?l20 ?c20 ?k20 ?a21 ?l21 ?c21 ?k21 ?a22 ?l22 ?c22 ?k22 ?a23 ?l23 ?c23 ?k23 ?a24 ?l24 ?c24 ?k24 ?a25 ?l25 ?c25 ?k25 ?aI ?iI ?lI ?cI ?kI ?tI ?aINR ?hn ?ht ?vMOST_PLACES ?xLNN ?xbNN ?seNN ?keNN ?heNN ?gaNN ?ggNN ?hxNN ?myNN ?exNN ?ieNN ?teNN ?ssNN ?xLNR ?xbNR ?seNR ?keNR ?heNR ?gaNR ?ggNR ?hxNR ?myNR ?exNR ?ieNR ?teNR ?ssNR ?exCE ?ieCE ?teCE ?ssCE ?sNE ?sRE ?sNV ?sRV ?sNR ?sRN ?zlen ?zint ?zbool ?zisinstance ?ztuple ?zall ?zenumerate ?zlist ?zrange ?zmin ?zmax ?zsorted ?zset ?zstr ?zabs ?zValueError ?zsum ?zdict ?zany ?hP ?nP ?hC
    (case gNN => k_is)
    (case gNR => k_is)
    (case gCE => k_is)
    (case a1 => k_is)
    (case l1 => k_is)
    (case c1 => k_is)
    (case k1 => k_is)
    (case a2 => k_is)
    (case l2 => k_is)
    (case c2 => k_is)
    (case k2 => k_is)
    (case a9 => k_is)
    (case l9 => k_is)
    (case c9 => k_is)
    (case k9 => k_is)
    (case a10 => k_is)
    (case l10 => k_is)
    (case c10 => k_is)
    (case k10 => k_is)
    (case a11 => k_is)
    (case l11 => k_is)
    (case c11 => k_is)
    (case k11 => k_is)
    (case a12 => k_is)
    (case l12 => k_is)
    (case c12 => k_is)
    (case k12 => k_is)
    (case a14 => k_is)
    (case l14 => k_is)
    (case c14 => k_is)
    (case k14 => k_is)
    (case a15 => k_is)
    (case l15 => k_is)
    (case c15 => k_is)
    (case k15 => k_is)
    (case a16 => k_is)
    (case l16 => k_is)
    (case c16 => k_is)
    (case k16 => k_is)
    (case a17 => k_is)
    (case l17 => k_is)
    (case c17 => k_is)
    (case k17 => k_is)
    (case a18 => k_is)
    (case l18 => k_is)
    (case c18 => k_is)
    (case k18 => k_is)
    (case a19 => k_is)
    (case l19 => k_is)
    (case c19 => k_is)
    (case k19 => k_is)
    (case a20 => k_is)
    (case l20 => k_is)
    (case c20 => k_is)
    (case k20 => k_is)
    (case a21 => k_is)
    (case l21 => k_is)
    (case c21 => k_is)
    (case k21 => k_is)
    (case a22 => k_is)
    (case l22 => k_is)
    (case c22 => k_is)
    (case k22 => k_is)
    (case a23 => k_is)
    (case l23 => k_is)
    (case c23 => k_is)
    (case k23 => k_is)
    (case a24 => k_is)
    (case l24 => k_is)
    (case c24 => k_is)
    (case k24 => k_is)
    (case a25 => k_is)
    (case l25 => k_is)
    (case c25 => k_is)
    (case k25 => k_is)
    (case aI => k_is)
    (case iI => k_is)
    (case lI => k_is)
    (case cI => k_is)
    (case kI => k_is)
    (case tI => k_is)
    (case aINR => k_is)
    (case hn => k_is)
    (case ht => k_is)
    (case vMOST_PLACES => k_is)
    (case xLNN => k_is)
    (case xbNN => decide +kernel)
    (case seNN => k_is)
    (case keNN => k_is)
    (case heNN => k_is)
    (case gaNN => k_is)
    (case ggNN => k_is)
    (case hxNN => k_is)
    (case myNN => k_is)
    (case exNN => k_is)
    (case ieNN => k_is)
    (case teNN => k_is)
    (case ssNN => first | rfl | k_is)
    (case xLNR => k_is)
    (case xbNR => decide +kernel)
    (case seNR => k_is)
    (case keNR => k_is)
    (case heNR => k_is)
    (case gaNR => k_is)
    (case ggNR => k_is)
    (case hxNR => k_is)
    (case myNR => k_is)
    (case exNR => k_is)
    (case ieNR => k_is)
    (case teNR => k_is)
    (case ssNR => first | rfl | k_is)
    (case exCE => k_is)
    (case ieCE => k_is)
    (case teCE => k_is)
    (case ssCE => first | rfl | k_is)
    (case sNE => k_is)
    (case sRE => k_is)
    (case sNV => k_is)
    (case sRV => k_is)
    (case sNR => k_is)
    (case sRN => k_is)
    (case zlen => k_is)
    (case zint => k_is)
    (case zbool => k_is)
    (case zisinstance => k_is)
    (case ztuple => k_is)
    (case zall => k_is)
    (case zenumerate => k_is)
    (case zlist => k_is)
    (case zrange => k_is)
    (case zmin => k_is)
    (case zmax => k_is)
    (case zsorted => k_is)
    (case zset => k_is)
    (case zstr => k_is)
    (case zabs => k_is)
    (case zValueError => k_is)
    (case zsum => k_is)
    (case zdict => k_is)
    (case zany => k_is)
    (case hP => exact hT _ (List.Mem.head _))
    (case nP => first | rfl | decide +kernel | k_is)
    (case hC => first | kernel_rfl | rfl | k_is)
