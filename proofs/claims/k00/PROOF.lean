import PyProof.Rows.All
import Wide.All
import OpenK.AllK
import Wide.FinOn
import HandS.ForMost
import HandS.Codes
import HandS.IsInst
import HandS.OwnEq
import KE.GoesMore
import HandS.Iter
import HandS.ForExc
import HandS.ExcInit
import HandS.ExcField
import KE.KExcIs
import HandS.TryMany
import HandS.ExcValue
import HandS.Zip
import HandS.DictComp
import PySem.Challenge.RW_mapwebs_k00_errors_and_what_they_keep
set_option Elab.async false
set_option linter.all false
set_option maxRecDepth 100000
set_option maxHeartbeats 4000000
namespace K9
open PySem L2
def top (i : Nat) : Stmt := PySem.Challenge.pw_mapwebs_k00_errors_and_what_they_keep.main.body.getD i (.Pass ⟨0, 0, 0, 0⟩)
abbrev sDraw : Stmt := top 51
abbrev sAny : Stmt := top 52
/-- the pot stands at a: a list of the cells' list and four ints -/
def PotAt (H : Hp) (a : Addr) : Prop := ∃ (c : Addr) (ns : List Int) (i : Nat) (z s n : Int), H a = some (.lst [.ref c, .int (i : Int), .int z, .int s, .int n]) ∧ H c = some (.lst (ns.map V.int))
/-- a step that changes nothing but the pot, and makes new things -/
structure Go (a : Addr) (H H' : Hp) : Prop where
  pot : PotAt H' a
  keep : ∀ b o, b ≠ a → H b = some o → H' b = some o
  cell : ∀ (c : Addr) (xs : List V), H a = some (.lst (.ref c :: xs)) → ∃ ys, H' a = some (.lst (.ref c :: ys))
theorem Go.trans {a : Addr} {H H1 H2 : Hp} (x : Go a H H1) (y : Go a H1 H2) : Go a H H2 := ⟨y.1, fun b o n e => y.2 b o n (x.2 b o n e), fun c xs h => let ⟨ys, h'⟩ := x.3 c xs h; y.3 c ys h'⟩
theorem Go.refl {a : Addr} {H : Hp} (x : PotAt H a) : Go a H H := ⟨x, fun _ _ _ e => e, fun _ xs h => ⟨xs, h⟩⟩
theorem PotAt.ne {H : Hp} {a : Addr} (x : PotAt H a) {b : Addr} (h : H b = none) : a ≠ b := by
  obtain ⟨c, ns, i, z, s, n, h1, _⟩ := x
  exact ne_of_none h1 h
theorem PotAt.upd {H : Hp} {a : Addr} (x : PotAt H a) {b : Addr} {o : HO} (h : H b = none) : PotAt (upd H b o) a := by
  obtain ⟨c, ns, i, z, s, n, h1, h2⟩ := x
  exact ⟨c, ns, i, z, s, n, by rw [upd_ne (ne_of_none h1 h)]; exact h1, by rw [upd_ne (ne_of_none h2 h)]; exact h2⟩
theorem Go.new {a : Addr} {H : Hp} (x : PotAt H a) {b : Addr} {o : HO} (h : H b = none) : Go a H (upd H b o) := ⟨x.upd h, fun c u n e => by rw [upd_ne (ne_of_none e h)]; exact e, fun c xs e => ⟨xs, by rw [upd_ne (ne_of_none e h)]; exact e⟩⟩
/-- a store in the pot -/
theorem PotAt.put {H : Hp} {a c : Addr} {ns : List Int} {i : Nat} {z s n : Int} {xs : List V} (h1 : H a = some (.lst xs)) (h2 : H c = some (.lst (ns.map V.int))) (hc : c ≠ a) (i' : Nat) (z' s' n' : Int) :
    PotAt (L2.upd H a (.lst [.ref c, .int (i' : Int), .int z', .int s', .int n'])) a := ⟨c, ns, i', z', s', n', upd_same, by rw [upd_ne hc]; exact h2⟩
def spDraw : Sp := fun vs H Q _ => ∃ (a : Addr) (m : Int), vs = [.ref a, .int m] ∧ PotAt H a ∧ 0 < m ∧ m < 1000000 ∧ ∀ (r : Int) (H' : Hp), 0 ≤ r → r < m → Go a H H' → Q (.int r) H'
structure Bl (mg : Str → Option Value) : Prop where
  len : mg "len" = none
  int : mg "int" = none
theorem upd_upd {H : Hp} {a : Addr} {o u : HO} : upd (upd H a o) a u = upd H a u := by
  funext b
  by_cases h : b = a
  · rw [h, upd_same, upd_same]
  · rw [upd_ne h, upd_ne h, upd_ne h]
section
variable {P : Program} {w : World} {K : PySem.W.Frag} {mg : Str → Option Value} {base : Heap}
theorem scD : FnScope ["hand", "many", "cell", "digit", "number"] ["hand", "many"] (defScope sDraw) := ⟨rfl, rfl, rfl, by decide +kernel, rfl, by decide +kernel, by decide +kernel⟩
theorem ok_draw {f : Addr} {fd : FuncData} (F : Fun K "_law_draw" "_law_draw" sDraw f fd) (T : Bl mg) : FnOk P w K mg base CX0 1 f fd ["hand", "many"] spDraw := by
  refine F.ok scD (fun vs H Q E h => ?_) (fun cdv A outer s H vs Q E hr h => ?_)
  · obtain ⟨a, m, rfl, _⟩ := h
    rfl
  · obtain ⟨a, m, rfl, ⟨c, ns, i, z, t, n, h1, h2⟩, hm, hm2, k⟩ := h
    have hca : c ≠ a := ne_of h2 h1 (by intro q; cases ns <;> cases q)
    refine ⟨_, C8.pss_cut (ps_if (PW.pt (pw_and (pt_cmpR op_eq (pe_ix ix_list (pv 0) pe_int (fun _ _ => rfl)) pe_int (nomark _)) (pw_and1 (pt_cmpR op_lt (pe_ix ix_list (pv 0) pe_int (fun _ _ => rfl)) (pe_callB call_len_seq (by rfl) T.len PySem.boot_len (pa_cons (pe_ix ix_list (pv 0) pe_int (fun _ _ => rfl)) pa_nil)) (nomark _)))))
        (pss_cons (ps_set (i := 2) scD.nd rfl (Or.inl rfl) (pe_ix ix_list (pe_ix ix_list (pv 0) pe_int (fun _ _ => rfl)) (pe_ix ix_list (pv 0) pe_int (fun _ _ => rfl)) (fun _ _ => rfl)))
        (pss_cons (ps_asg (pe_op op_add (pe_ix ix_list (pv 0) pe_int (fun _ _ => rfl)) pe_int) (pg_sub (pv 0) pe_int set_list))
        (pss_cons (ps_asg (pe_op op_mod (pe_callTy call_int1 (by rfl) T.int (by decide +kernel) (pa_cons (pe_op op_add (pe_op op_add (pe_op op_mul (pe_ix ix_list (pv 0) pe_int (fun _ _ => rfl)) pe_int) (pv 2)) pe_int) pa_nil)) pe_int) (pg_sub (pv 0) pe_int set_list))
        (pss_one (ps_if (pt_cmpR op_ge (pv 2) (pe_op op_pow pe_int pe_int) (nomark _)) (pss_one (ps_asg (pv 2) (pg_sub (pv 0) pe_int set_list))) pss_nil)))))
        pss_nil)
      (pss_cons (ps_if (pt_cmpR op_gt (pe_ix ix_list (pv 0) pe_int (fun _ _ => rfl)) pe_int (nomark _))
        (pss_cons (ps_set (i := 3) scD.nd rfl (Or.inl rfl) (pe_op op_mod (pe_callTy call_int1 (by rfl) T.int (by decide +kernel) (pa_cons (pe_ix ix_list (pv 0) pe_int (fun _ _ => rfl)) pa_nil)) (pv 1)))
        (pss_cons (ps_asg (pe_op op_fdiv (pe_ix ix_list (pv 0) pe_int (fun _ _ => rfl)) (pv 1)) (pg_sub (pv 0) pe_int set_list))
        (pss_one (ps_ret (pv 3))))) pss_nil)
      (pss_cons (ps_asg (pe_op op_add (pe_ix ix_list (pv 0) pe_int (fun _ _ => rfl)) pe_int) (pg_sub (pv 0) pe_int set_list))
      (pss_cons (ps_set (i := 4) scD.nd rfl (Or.inl rfl) (pe_op op_mod (pe_callTy call_int1 (by rfl) T.int (by decide +kernel) (pa_cons (pe_op op_mul (pe_callTy call_int1 (by rfl) T.int (by decide +kernel) (pa_cons (pe_op op_add (pe_ix ix_list (pv 0) pe_int (fun _ _ => rfl)) (pe_op op_mul pe_int (pe_ix ix_list (pv 0) pe_int (fun _ _ => rfl)))) pa_nil)) pe_int) pa_nil)) pe_int))
      (pss_cons (ps_set (i := 4) scD.nd rfl (Or.inl rfl) (pe_op op_mod (pe_callTy call_int1 (by rfl) T.int (by decide +kernel) (pa_cons (pe_op op_mul (pv 4) (pe_op op_add (pe_op op_fdiv (pv 4) pe_int) pe_int)) pa_nil)) pe_int))
      (pss_cons (ps_set (i := 4) scD.nd rfl (Or.inl rfl) (pe_op op_mod (pe_callTy call_int1 (by rfl) T.int (by decide +kernel) (pa_cons (pe_op op_mul (pv 4) (pe_op op_add (pe_op op_fdiv (pv 4) pe_int) pe_int)) pa_nil)) pe_int))
      (pss_one (ps_ret (pe_op op_mod (pe_callTy call_int1 (by rfl) T.int (by decide +kernel) (pa_cons (pe_op op_fdiv (pv 4) pe_int) pa_nil)) (pv 1))))))))), ?_⟩
    refine ⟨fun σ' H' => (∃ v, σ' = [some (.ref a), some (.int m), v, Option.none, Option.none]) ∧ Go a H H', ?_, ?_⟩
    · -- the first if
      refine ⟨_, rfl, _, _, _, _, rfl, rfl, SqL.of h1, rfl, rfl, _, rfl, ?_⟩
      have base0 : Go a H H := Go.refl ⟨c, ns, i, z, t, n, h1, h2⟩
      refine ite2 (fun _ => ?_) (fun _ => ?_)
      · refine ⟨_, rfl, _, _, _, _, rfl, rfl, SqL.of h1, rfl, _, rfl, _, _, _, _, rfl, rfl, SqL.of h1, rfl, _, _, rfl, .inl (SqL.of h2), _, _, rfl, rfl, _, rfl, ?_⟩
        refine ite2 (fun e => ?_) (fun _ => ?_)
        · have hi : i < ns.length := by
            have e' := of_decide_eq_true e
            rw [List.length_map] at e'
            omega
          have hcell : (ns.map V.int)[i]? = some (V.int ns[i]) := by
            rw [List.getElem?_map, List.getElem?_eq_getElem hi] <;> rfl
          refine ⟨_, rfl, _, _, _, _, rfl, rfl, SqL.of h1, rfl, _, rfl, _, _, _, _, rfl, rfl, SqL.of h1, rfl, _, _, _, _, rfl, rfl, SqL.of h2, atI_nat hcell, ?_⟩
          refine ⟨_, rfl, _, _, _, _, rfl, rfl, SqL.of h1, rfl, _, _, rfl, rfl, _, rfl, _, _, _, _, rfl, rfl, h1, rfl, ?_⟩
          refine ⟨_, rfl, _, _, _, _, rfl, rfl, SqL.of upd_same, rfl, _, _, rfl, rfl, .inr (by decide), _, rfl, _, _, rfl, rfl, _, _, rfl, rfl, .inl ⟨_, rfl, _, _, rfl, rfl, (by show (0 : Int) < 2147483629; decide), _, rfl, _, _, _, _, rfl, rfl, upd_same, rfl, ?_⟩⟩
          refine ⟨_, rfl, _, _, rfl, rfl, ⟨by decide, by decide, by decide⟩, _, _, rfl, rfl, _, rfl, ?_⟩
          have fin : ∀ z' s' : Int, Go a H (upd H a (.lst [.ref c, .int ((i + 1 : Nat) : Int), .int z', .int s', .int n])) := fun z' s' => ⟨PotAt.put (i := i) (z := z) (s := t) (n := n) h1 h2 hca _ _ _ _, fun b o e q => by rw [upd_ne e]; exact q, fun c' xs h => by rw [h1] at h; cases h; exact ⟨_, upd_same⟩⟩
          refine ite2 (fun _ => ?_) (fun _ => ?_)
          · refine ⟨_, rfl, _, rfl, _, _, _, _, rfl, rfl, upd_same, rfl, ⟨_, rfl⟩, ?_⟩
            rw [upd_upd, upd_upd]
            exact fin _ _
          · refine ⟨⟨_, rfl⟩, ?_⟩
            rw [upd_upd]
            exact fin _ _
        · exact ⟨⟨_, rfl⟩, base0⟩
      · refine iteF ?_
        exact ⟨⟨_, rfl⟩, base0⟩
    · rintro σ' H' ⟨⟨v, rfl⟩, ⟨c, ns, i, z, t, n, h1, h2⟩, kp, k3⟩
      have hca : c ≠ a := ne_of h2 h1 (by intro q; cases ns <;> cases q)
      have fin : ∀ z' s' n' : Int, Go a H (upd H' a (.lst [.ref c, .int (i : Int), .int z', .int s', .int n'])) := fun z' s' n' => ⟨PotAt.put (i := i) (z := z) (s := t) (n := n) h1 h2 hca _ _ _ _, fun b o e q => by rw [upd_ne e]; exact kp b o e q, fun c' xs h => by obtain ⟨ys, h'⟩ := k3 c' xs h; rw [h1] at h'; cases h'; exact ⟨_, upd_same⟩⟩
      refine ⟨_, rfl, _, _, _, _, rfl, rfl, SqL.of h1, rfl, _, _, rfl, rfl, _, rfl, ?_⟩
      refine ite2 (fun _ => ?_) (fun _ => ?_)
      · refine ⟨_, rfl, _, _, _, _, rfl, rfl, SqL.of h1, rfl, .inl ⟨_, rfl, _, rfl, _, _, rfl, rfl, hm, ?_⟩⟩
        refine ⟨_, rfl, _, _, _, _, rfl, rfl, SqL.of h1, rfl, _, rfl, _, _, rfl, rfl, ⟨hm, by omega⟩, _, rfl, _, _, _, _, rfl, rfl, h1, rfl, _, rfl, ?_⟩
        exact k _ _ (Int.emod_nonneg _ (by omega)) (Int.emod_lt_of_pos _ hm) (fin _ _ _)
      · refine ⟨_, rfl, _, _, _, _, rfl, rfl, SqL.of h1, rfl, _, _, rfl, rfl, _, rfl, _, _, _, _, rfl, rfl, h1, rfl, ?_⟩
        refine ⟨_, rfl, _, _, _, _, rfl, rfl, SqL.of upd_same, rfl, _, rfl, _, _, _, _, rfl, rfl, SqL.of upd_same, rfl, _, _, rfl, rfl, .inl (by decide), _, _, rfl, rfl, .inl ⟨_, rfl, _, _, rfl, rfl, .inr (by decide), .inl ⟨_, rfl, _, _, rfl, rfl, (by show (0 : Int) < 2147483647; decide), ?_⟩⟩⟩
        have b1 := Int.emod_nonneg ((t + 7919 * (n + 1)) * 48271) (show (2147483647 : Int) ≠ 0 by decide)
        have b2 := Int.emod_lt_of_pos ((t + 7919 * (n + 1)) * 48271) (show (0 : Int) < 2147483647 by decide)
        refine ⟨_, rfl, _, rfl, _, _, rfl, rfl, ⟨by decide, by decide⟩, _, _, rfl, rfl, _, _, rfl, rfl, .inl ⟨by omega, by omega⟩, .inl ⟨_, rfl, _, _, rfl, rfl, (by show (0 : Int) < 2147483647; decide), ?_⟩⟩
        generalize (t + 7919 * (n + 1)) * 48271 % 2147483647 = y1 at *
        have b3 := Int.emod_nonneg (y1 * (y1 / 1009 + 69621)) (show (2147483647 : Int) ≠ 0 by decide)
        have b4 := Int.emod_lt_of_pos (y1 * (y1 / 1009 + 69621)) (show (0 : Int) < 2147483647 by decide)
        refine ⟨_, rfl, _, rfl, _, _, rfl, rfl, ⟨by decide, by decide⟩, _, _, rfl, rfl, _, _, rfl, rfl, .inl ⟨by omega, by omega⟩, .inl ⟨_, rfl, _, _, rfl, rfl, (by show (0 : Int) < 2147483399; decide), ?_⟩⟩
        refine ⟨_, rfl, _, _, rfl, rfl, ⟨by decide, by decide⟩, .inl ⟨_, rfl, _, rfl, _, _, rfl, rfl, hm, ?_⟩⟩
        exact k _ _ (Int.emod_nonneg _ (by omega)) (Int.emod_lt_of_pos _ hm) (fin _ _ _)
end
end K9
set_option Elab.async false
set_option linter.all false
set_option maxRecDepth 100000
set_option maxHeartbeats 4000000
namespace K9
open PySem L2
abbrev sInteger : Stmt := top 37
abbrev sNumber : Stmt := top 38
abbrev sArrow : Stmt := top 48
/-- built-ins that the text leaves as they are -/
structure Gb (mg : Str → Option Value) : Prop where
  len : mg "len" = none
  int : mg "int" = none
  bool : mg "bool" = none
  isi : mg "isinstance" = none
  tup : mg "tuple" = none
  all : mg "all" = none
  enum : mg "enumerate" = none
  list : mg "list" = none
  rng : mg "range" = none
  min : mg "min" = none
  max : mg "max" = none
  sorted : mg "sorted" = none
  set : mg "set" = none
  str : mg "str" = none
  abs : mg "abs" = none
  ve : mg "ValueError" = none
/-- what is expected of a caller of a plain def -/
abbrev Cal := @C8.Cal
def isI : V → Bool | .int _ => true | _ => false
def isB : V → Bool | .bl _ => true | _ => false
/-- a thing, as isinstance sees it; of a tuple also its items, n deep -/
def Th (K : PySem.W.Frag) (H : Hp) : Nat → V → Prop
  | n, x => ∃ t, TyX K H x t ∧ PySem.W.kitOne K t (.type "int") = some (isI x || isB x) ∧ PySem.W.kitOne K t (.type "bool") = some (isB x) ∧
    ((PySem.W.kitOne K t (.type "tuple") = some false ∧ ∀ a, x = .ref a → ∃ o, H a = some o ∧ ∀ xs, o ≠ .tup xs) ∨ (PySem.W.kitOne K t (.type "tuple") = some true ∧ ∃ a xs, x = .ref a ∧ H a = some (.tup xs) ∧
      match n with | 0 => True | m + 1 => ∀ y ∈ xs, Th K H m y))
theorem Th.zero {K : PySem.W.Frag} {H : Hp} {n : Nat} {x : V} (h : Th K H n x) : Th K H 0 x := by
  unfold Th at h ⊢
  obtain ⟨t, a, b, c, d⟩ := h
  refine ⟨t, a, b, c, ?_⟩
  rcases d with d | ⟨d, a, xs, e, f, _⟩
  · exact .inl d
  · exact .inr ⟨d, a, xs, e, f, True.intro⟩
def numV (m : Int) : V → Bool
  | .int i => decide (0 ≤ i) && decide (i ≤ m)
  | _ => false
theorem tyes_in {σ : L2.St} {H : Hp} {te : TE} {R : V → Hp → Prop} {N : Hp → Prop} (h : te σ H R) : tYes σ H (fun b H3 => if b = true then te σ H3 R else N H3) := by
  show (if true = true then te σ H R else N H)
  rw [if_pos rfl]
  exact h
theorem numV_true {m : Int} {x : V} : numV m x = true ↔ ∃ i, x = .int i ∧ 0 ≤ i ∧ i ≤ m := by
  cases x <;> simp [numV]
theorem TyOf.ext {K : PySem.W.Frag} {H H' : Hp} {x : V} {t : Value} (h : TyOf K H x t) (e : Ext H H') : TyOf K H' x t := by
  cases h with
  | non => exact .non
  | bl x => exact .bl x
  | int i => exact .int i
  | str x => exact .str x
  | flt x => exact .flt x
  | lst h => exact .lst (e _ _ h)
  | frz h => exact .frz (e _ _ h)
  | tup h => exact .tup (e _ _ h)
  | dK h => exact .dK (e _ _ h)
  | dT h => exact .dT (e _ _ h)
  | ins h c a b d f => exact .ins (e _ _ h) c a b d f
theorem TyX.ext {K : PySem.W.Frag} {H H' : Hp} {x : V} {t : Value} (h : TyX K H x t) (e : Ext H H') : TyX K H' x t := by
  cases h with
  | base h => exact .base (TyOf.ext h e)
  | byt b => exact .byt b
  | set h => exact .set (e _ _ h)
  | kList h c => exact .kList h c
  | kTuple h c => exact .kTuple h c
  | kDict h c => exact .kDict h c
  | fTuple h => exact .fTuple (e _ _ h)
  | fDict h => exact .fDict (e _ _ h)
theorem Th.ext {K : PySem.W.Frag} {H H' : Hp} (e : Ext H H') : ∀ {n : Nat} {x : V}, Th K H n x → Th K H' n x
  | 0, x, h => by
    unfold Th at h ⊢
    obtain ⟨t, a, b, c, d⟩ := h
    refine ⟨t, TyX.ext a e, b, c, ?_⟩
    rcases d with ⟨d, f⟩ | ⟨d, a, xs, g, f, _⟩
    · exact .inl ⟨d, fun a q => let ⟨o, h1, h2⟩ := f a q; ⟨o, e _ _ h1, h2⟩⟩
    · exact .inr ⟨d, a, xs, g, e _ _ f, True.intro⟩
  | n + 1, x, h => by
    unfold Th at h ⊢
    obtain ⟨t, a, b, c, d⟩ := h
    refine ⟨t, TyX.ext a e, b, c, ?_⟩
    rcases d with ⟨d, f⟩ | ⟨d, a, xs, g, f, i⟩
    · exact .inl ⟨d, fun a q => let ⟨o, h1, h2⟩ := f a q; ⟨o, e _ _ h1, h2⟩⟩
    · exact .inr ⟨d, a, xs, g, e _ _ f, fun y hy => Th.ext e (i y hy)⟩
/-- an arrow of m places -/
def isArr (H : Hp) (m : Int) (x : V) : Prop := ∃ (a : Addr) (p q : Int), x = .ref a ∧ H a = some (.tup [.int p, .int q]) ∧ 0 ≤ p ∧ p < m ∧ 0 ≤ q ∧ q < m
def spInteger (K : PySem.W.Frag) : Sp := fun vs H Q _ => ∃ x : V, vs = [x] ∧ Th K H 0 x ∧ Q (.bl (isI x)) H
def spNumber (K : PySem.W.Frag) : Sp := fun vs H Q _ => ∃ (m : Int) (x : V), vs = [.int m, x] ∧ Th K H 0 x ∧ Q (.bl (numV m x)) H
def spArrow (K : PySem.W.Frag) : Sp := fun vs H Q _ => ∃ (m : Int) (x : V), vs = [.int m, x] ∧ Th K H 1 x ∧ ∀ (b : Bool) (H' : Hp), (b = true ↔ isArr H m x) → Ext H H' → Q (.bl b) H'
section
variable {P : Program} {w : World} {K : PySem.W.Frag} {mg : Str → Option Value} {base : Heap}
theorem scInt : FnScope ["thing"] ["thing"] (defScope sInteger) := ⟨rfl, rfl, rfl, by decide +kernel, rfl, by decide +kernel, by decide +kernel⟩
theorem ok_integer {f : Addr} {fd : FuncData} (F : L2.Fun K "is_integer" "is_integer" sInteger f fd) (T : Gb mg) : FnOk P w K mg base CX0 1 f fd ["thing"] (spInteger K) := by
  refine F.ok scInt (fun vs H Q E h => ?_) (fun cdv A outer s H vs Q E hr h => ?_)
  · obtain ⟨x, rfl, _⟩ := h
    rfl
  · obtain ⟨x, rfl, th, k⟩ := h
    unfold Th at th
    obtain ⟨t, ty, ki, kb, _⟩ := th
    refine ⟨_, pss_one (ps_ret (pe_and (pe_callB call_isi (by rfl) T.isi (by decide +kernel) (pa_cons (pv 0) (pa_cons (pe_bltn (v := .ty "int") (by rfl) T.int (by decide +kernel) rfl) pa_nil)))
      (pe_one (pe_not (pe_callB call_isi (by rfl) T.isi (by decide +kernel) (pa_cons (pv 0) (pa_cons (pe_bltn (v := .ty "bool") (by rfl) T.bool (by decide +kernel) rfl) pa_nil))))))), ?_⟩
    refine ⟨_, rfl, x, .ty "int", t, .type "int", _, rfl, .ty _, ty, ki, _, rfl, ?_⟩
    cases x <;> first
      | exact iteF k
      | (refine iteT ⟨_, rfl, _, .ty "bool", t, .type "bool", _, rfl, .ty _, ty, kb, _, rfl, ?_⟩; exact k)
theorem scNum : FnScope ["most", "thing"] ["most", "thing"] (defScope sNumber) := ⟨rfl, rfl, rfl, by decide +kernel, rfl, by decide +kernel, by decide +kernel⟩
theorem ok_number {f : Addr} {fd : FuncData} (F : L2.Fun K "is_number" "is_number" sNumber f fd) (cI : Cal P w K mg base 1 "is_integer" (spInteger K) []) : FnOk P w K mg base CX0 2 f fd ["most", "thing"] (spNumber K) := by
  refine F.ok scNum (fun vs H Q E h => ?_) (fun cdv A outer s H vs Q E hr h => ?_)
  · obtain ⟨m, x, rfl, _⟩ := h
    rfl
  · obtain ⟨m, x, rfl, th, k⟩ := h
    refine ⟨_, pss_one (ps_ret (pe_and (C8.pe_c cI hr (by decide) (by rfl) (pa_cons (pv 1) pa_nil)) (pe_one (pe_chain op_le op_le pe_int (pv 1) (pv 0))))), ?_⟩
    refine ⟨_, rfl, x, rfl, th, _, rfl, ?_⟩
    cases x with
    | int i =>
      refine iteT ⟨_, rfl, _, _, rfl, rfl, _, rfl, ?_⟩
      by_cases h0 : (0 : Int) ≤ i
      · rw [decide_eq_true h0]
        refine iteT ⟨_, rfl, _, _, rfl, rfl, ?_⟩
        have e : numV m (.int i) = decide (i ≤ m) := by simp [numV, h0]
        rw [e] at k
        exact k
      · rw [decide_eq_false h0]
        have e : numV m (.int i) = false := by simp [numV, h0]
        rw [e] at k
        exact iteF k
    | _ => exact iteF k
theorem scArr : FnScope ["many", "thing", "place"] ["many", "thing"] (defScope sArrow) := ⟨rfl, rfl, rfl, by decide +kernel, rfl, by decide +kernel, by decide +kernel⟩
theorem ok_arrow {f : Addr} {fd : FuncData} (F : L2.Fun K "is_arrow" "is_arrow" sArrow f fd) (T : Gb mg) (cN : Cal P w K mg base 2 "is_number" (spNumber K) []) : FnOk P w K mg base CX0 3 f fd ["many", "thing"] (spArrow K) := by
  refine F.ok scArr (fun vs H Q E h => ?_) (fun cdv A outer s H vs Q E hr h => ?_)
  · obtain ⟨m, x, rfl, _⟩ := h
    rfl
  · obtain ⟨m, x, rfl, th, k⟩ := h
    unfold Th at th
    obtain ⟨t, ty, ki, kb, kt⟩ := th
    refine ⟨_, pss_cons (ps_if (PW.pt (pw_or (pt_not (pt_val (pe_callB call_isi (by rfl) T.isi (by decide +kernel) (pa_cons (pv 1) (pa_cons (pe_bltn (v := .ty "tuple") (by rfl) T.tup (by decide +kernel) rfl) pa_nil)))))
        (pw_or1 (pt_cmpR op_ne (pe_callB call_len_seq (by rfl) T.len PySem.boot_len (pa_cons (pv 1) pa_nil)) pe_int (nomark _))))) (pss_one (ps_ret pe_bl)) pss_nil)
      (pss_one (ps_ret (pe_callB (cr_all rfl) (by rfl) T.all (by decide +kernel) (pa_cons (pe_lc (own := [("place", 2)]) (g := gName 2) (tt := tYes) rfl scArr.nd (pi_tup (pv 1)) (blkOk_by (N := ["many", "thing", "place"]) (sc := defScope sArrow) (by decide +kernel)) (fun _ _ _ _ _ => pg_name (i := 2) scArr.nd rfl (Or.inl rfl)) (fun _ _ _ _ _ => pts_nil)
        (fun _ _ _ _ _ => C8.pe_c cN hr (by decide) (by rfl) (pa_cons (pe_op op_sub (pv 0) pe_int) (pa_cons (pv 2) pa_nil)))) pa_nil)))), ?_⟩
    rcases kt with ⟨kt, nt⟩ | ⟨kt, a, xs, rfl, ha, it⟩
    · refine ⟨_, rfl, x, .ty "tuple", t, .type "tuple", _, rfl, .ty _, ty, kt, _, rfl, ?_⟩
      refine iteT (iteT ?_)
      refine k false H ⟨fun z => Bool.noConfusion z, fun ⟨a, p, q, e, ha, _⟩ => by obtain ⟨o, h1, h2⟩ := nt a e; rw [ha] at h1; cases h1; exact absurd rfl (h2 _)⟩ Ext.rfl'
    · refine ⟨_, rfl, _, .ty "tuple", t, .type "tuple", _, rfl, .ty _, ty, kt, _, rfl, ?_⟩
      refine iteF ?_
      refine ⟨_, rfl, a, xs, rfl, .inr (SqT.of ha), rfl, _, rfl, ?_⟩
      by_cases hl : xs.length = 2
      · have hl' : (!decide (V.int (xs.length : Int) = V.int 2)) = false := by rw [hl]; rfl
        rw [hl']
        refine iteF ?_
        refine ⟨_, rfl, a, rfl, ⟨_, SqT.of ha⟩, fun D hD => ?_⟩
        have hda : a ≠ D := ne_of_none ha hD
        refine lc_tup (K := K) (a := a) (xs := xs) (fun i H' => H' = upd H D (.lst (((xs.take i).map (numV (m - 1))).map V.bl))) (by simp) (fun i H' _ e => by subst e; exact SqT.of (by rw [upd_ne hda]; exact ha)) ?_ ?_
        · rintro i y H' hi rfl
          refine ⟨rfl, tyes_in ?_⟩
          have hy : y ∈ xs := List.mem_of_getElem? hi
          have it' : ∀ y ∈ xs, Th K H 0 y := it
          have ty0 : Th K (upd H D (.lst (((xs.take i).map (numV (m - 1))).map V.bl))) 0 y := (it' y hy).ext (Ext.upd hD)
          refine ⟨_, rfl, _, _, rfl, rfl, _, rfl, m - 1, y, rfl, ty0, _, upd_same, small1000 (by simp; omega), ?_⟩
          rw [upd_upd, List.take_succ, hi]
          simp
        · rintro H' rfl
          refine ⟨D, (xs.take xs.length).map (numV (m - 1)), rfl, SqL.of upd_same, ?_⟩
          refine k _ _ ?_ (Ext.upd hD)
          match xs, hl with
          | [u, v], _ =>
            show (numV (m - 1) u && (numV (m - 1) v && true)) = true ↔ _
            rw [Bool.and_true, Bool.and_eq_true, numV_true, numV_true]
            constructor
            · rintro ⟨⟨p, rfl, hp⟩, ⟨q, rfl, hq⟩⟩
              exact ⟨a, p, q, rfl, ha, hp.1, by omega, hq.1, by omega⟩
            · rintro ⟨b, p, q, e, hb, h1, h2, h3, h4⟩
              cases e
              rw [ha] at hb
              cases hb
              exact ⟨⟨p, rfl, h1, by omega⟩, ⟨q, rfl, h3, by omega⟩⟩
      · have hl' : (!decide (V.int (xs.length : Int) = V.int 2)) = true := by
          have : ¬ (V.int (xs.length : Int) = V.int 2) := fun z => hl (by injection z with z; omega)
          simp [this]
        rw [hl']
        refine iteT ?_
        refine k false H ⟨fun z => Bool.noConfusion z, fun ⟨b, p, q, e, hb, _⟩ => ?_⟩ Ext.rfl'
        cases e
        rw [ha] at hb
        cases hb
        exact absurd rfl hl
end
end K9
set_option Elab.async false
set_option linter.all false
set_option maxRecDepth 100000
set_option maxHeartbeats 4000000
/-! enumerate over a tuple that is tracked: the iterator (by the library's WalksT.enumerateD over Draws.tuple), the rule of the layer, the loop. -/
namespace K9
open PySem L2 PyProof.Rows
open PySem.Sem (wp)
theorem en_new (l : Addr) (us : Array Value) (n : Nat) (dd : Option Addr) (sl : Array (Option Value)) :
    Meets (Builtin.«enumerate.__new__» ⟨[.type "enumerate", .ref l], []⟩) fun _ R s => s.heap.get? l = some { cls := .type "tuple", dict := dd, data := .seq us n, slots := sl } ∧
      R (.ok (.ret (.ref (s.heap.objs.size + 1)))) { s with heap := (s.heap.push { cls := .type "tuple_iterator", data := .fields #[.ref l, .int 0 0] }).push { cls := .type "enumerate", data := .fields #[.none, .bool false, .ref s.heap.objs.size, rawInt 0, .none, .none] } } := by
  refine .of_wp fun prog w A R s hh => ?_
  rcases s with ⟨hp, gs, dr, tk, os⟩
  rcases hh with ⟨there, hR⟩
  have isT : Heap.IsTuple (Shared.heap ⟨hp, gs, dr, tk, os⟩) l us := ⟨_, there, rfl, n, rfl⟩
  have same := sub_enumerate
  have big : (hp.push { cls := .type "tuple_iterator", data := .fields #[.ref l, .int 0 0] }).objs.size = hp.objs.size + 1 := Heap.size_push ..
  have hR' : R (.ok (.ret (.ref (hp.push { cls := .type "tuple_iterator", data := .fields #[.ref l, .int 0 0] }).objs.size))) ⟨(hp.push { cls := .type "tuple_iterator", data := .fields #[.ref l, .int 0 0] }).push { cls := .type "enumerate", data := .fields #[.none, .bool false, .ref hp.objs.size, rawInt 0, .none, .none] }, gs, dr, tk, os⟩ := by
    rw [big]; exact hR
  wp_walk using AutoSeq1.wpAny_loadPart' there
  refine wpAny_stack_any fun st => wpAny_pure ?_
  split
  · rename_i c _ _ _ _ _
    cases (c == Value.type "enumerate") <;>
    · wp_walk using AutoSeq1.wpAny_loadPart' there, wpAny_pyIter_tuple isT
      exact ⟨_, rfl, hR'⟩
  · wp_walk using AutoSeq1.wpAny_loadPart' there, wpAny_pyIter_tuple isT
    exact ⟨_, rfl, hR'⟩
theorem call_en {prog : Program} {w : World} {A : Around} {E : Value → Shared → Prop} {s : Shared} {l : Addr} {us : Array Value} {Q : Value → Shared → Prop} (isT : s.heap.IsTuple l us)
    (h : ∀ h' : Heap, IsEnum h' (s.heap.objs.size + 1) s.heap.objs.size 0 .none → h'.IsTupleIter s.heap.objs.size l 0 → (∀ b o, s.heap.get? b = some o → h'.get? b = some o) → Q (.ref (s.heap.objs.size + 1)) { s with heap := h' }) :
    wpAny (model prog w) A (call (.type "enumerate") [.ref l]) Q E s := by
  rcases isT with ⟨⟨c, dd, dt, sl⟩, there, hc, n, hd⟩
  obtain rfl : c = .type "tuple" := hc
  obtain rfl : dt = .seq us n := hd
  refine callType_new F.called_enumerate (by decide) (F.typeCall_enumerate_1 _) (F.newCall_enumerate_1 _) (fun obj => F.args_object_init_2 obj _) F.entry_enumerate_new (en_new l us n dd sl) ⟨there, ?_⟩
  have big : (s.heap.push { cls := .type "tuple_iterator", data := .fields #[.ref l, .int 0 0] }).objs.size = s.heap.objs.size + 1 := Heap.size_push ..
  have en : IsEnum ((s.heap.push { cls := .type "tuple_iterator", data := .fields #[.ref l, .int 0 0] }).push { cls := .type "enumerate", data := .fields #[.none, .bool false, .ref s.heap.objs.size, rawInt 0, .none, .none] }) (s.heap.objs.size + 1) s.heap.objs.size 0 .none := by
    rw [← big]
    exact Heap.get?_push_size _ rfl
  exact ⟨⟨_, en, rfl⟩, h _ en ⟨_, Heap.get?_push_of_some _ (Heap.get?_push_size _ rfl), rfl, rfl⟩ fun b o z => Heap.get?_push_of_some _ (Heap.get?_push_of_some _ z)⟩
/-- the items of the tracked tuple at a, each in a new pair with its number -/
def ItEn (a : Addr) : It where
  go := fun i H => ∃ (xs : List V) (x : V), H a = some (.tup xs) ∧ xs[i]? = some x
  yld := fun i H v H' => ∃ (p : Addr) (x : V), v = .ref p ∧ H p = none ∧ H' = upd H p (.tup [.int (i : Nat), x]) ∧ ∀ xs, H a = some (.tup xs) → xs[i]? = some x
  stop := fun i H => ∃ xs : List V, H a = some (.tup xs) ∧ xs.length = i
def enAt (a e it : Addr) (i : Nat) (h : Heap) : Prop := (∃ old, IsEnum h e it (i : Int) old) ∧ h.IsTupleIter it a i ∧ e ≠ it
section
variable {X : Cx} {pins : List (Addr × Obj)} {σ : L2.St} {H : Hp} {s : Shared} {a e it : Addr} {xs : List V}
/-- the library's walk, at a state that the layer knows -/
theorem en_walk (hc : X.calm = true) (I : Inv X pins σ H s) (hf : ∀ b ∈ [e, it], FpOk X pins H b) (hne : e ≠ it) (hq : H a = some (.tup xs)) :
    ∃ its : List Value, Vals xs its ∧ s.heap.IsTuple a its.toArray ∧ WalksT X.prog X.w X.A e (e :: [it, a]) [e, it] its.toArray.size (fun i vals => ∃ t x, its.toArray[i]? = some x ∧ vals = #[.int i t, x])
      (fun i h => (∃ old, IsEnum h e it i old) ∧ (h.IsTupleIter it a i ∧ h.IsTuple a its.toArray)) (fun i T h => (∃ x, IsEnumOut h e it ((i : Int) + 1) x T) ∧ (h.IsTupleIter it a (i + 1) ∧ h.IsTuple a its.toArray) ∧ T ≠ e ∧ T ≠ it) := by
  obtain ⟨its, rv, p, _⟩ := I.tuple (SqT.of hq)
  have un : ∀ b ∈ [e, it], b ≠ a := fun b hb z => by
    have n := (hf b hb).1
    rw [z, hq] at n
    cases n
  refine ⟨its, rv, p, WalksT.enumerateD (Draws.tuple (A := X.A.in1) (I.ok.hd hc) it a (Ne.symm (un it (by simp))) its.toArray) e hne ?_ (by simp)⟩
  intro z
  rcases List.mem_cons.mp z with z | z
  · exact hne z
  · exact un e (by simp) (List.mem_singleton.mp z)
end
theorem en_turn {P : Program} {w : World} {K : PySem.W.Frag} {elts : List Expr} {kk : Nat} {tpos : Pos} (a e it : Addr) : Turn P w K (.Tuple elts kk tpos) (ItEn a) [e, it] e (enAt a e it) := by
  refine ⟨by simp, fun i h st b hb => ?_, fun i h h' st k => ⟨?_, ?_, st.2.2⟩, ?_, ?_, fun A i s Q E st q => ?_⟩
  · rcases st with ⟨⟨old, en⟩, ⟨ob, there, _, dt⟩, _⟩
    rcases List.mem_cons.mp hb with z | z
    · subst z
      exact ⟨_, en, fun v q => by cases q⟩
    · rw [List.mem_singleton.mp z]
      exact ⟨ob, there, fun v q => by rw [dt] at q; cases q⟩
  · exact st.1.imp fun old en => k e (by simp) _ en
  · exact st.2.1.at fun ob z => k it (by simp) ob z
  · intro X eP eW eK hc i pins s σ H E I hf st go
    subst eP eW eK
    obtain ⟨xs, x, hq, hx⟩ := go
    obtain ⟨its, rv, isT, W⟩ := en_walk hc I hf st.2.2 hq
    obtain ⟨u, hu, ru⟩ := rv.get hx
    have lt : i < its.toArray.size := by simpa using (List.getElem?_eq_some_iff.mp hu).1
    refine W.item i s _ E lt ⟨st.1, st.2.1, isT⟩ fun T vals h1 tk pt big hT mid keep1 => ⟨_, rfl, ?_⟩
    obtain ⟨t, y, hy, rfl⟩ := pt
    obtain rfl : y = u := by
      have hu' : its.toArray[i]? = some u := by simpa using hu
      exact Option.some.inj (hy.symm.trans hu')
    refine W.go elts kk tpos i T { s with heap := h1, toks := tk } _ E mid fun h2 st2 keep2 => ?_
    have nT : T ∉ [e, it] := W.apart i T h1 mid
    have hT2 : h2.IsTuple T #[.int (i : Nat) t, y] := hT.at fun ob z => keep2 T ob nT z
    have J : Inv X pins σ (upd H T (.tup [.int (i : Nat), x])) { s with heap := h2, toks := tk } :=
      I.turnedNew (ch := [e, it]) (fun b ob hb z => keep2 b ob hb (keep1 b ob hb z)) hf big ⟨by show 2 ≤ sizeLine; decide, [.int i t, y], .cons ⟨_, rfl⟩ (.cons ru .nil), hT2⟩
    refine ⟨.ref T, _, J, rfl, ⟨T, x, rfl, I.hok.fresh big, rfl, fun ys hy => by rw [hq] at hy; cases hy; exact hx⟩, ⟨st2.1, st2.2.1, st.2.2⟩, fun b hb => ?_⟩
    have nb : b ≠ T := fun z => nT (by rw [← z]; exact hb)
    rw [upd_ne nb]
    exact (hf b hb).1
  · intro X eP eW eK hc i pins s σ H E I hf st stop
    subst eP eW eK
    obtain ⟨xs, hq, hl⟩ := stop
    obtain ⟨its, rv, isT, W⟩ := en_walk hc I hf st.2.2 hq
    have ei : its.toArray.size = i := by
      rw [← hl, rv.length]
      simp
    refine W.done s _ E ?_ fun h1 tk keep => ⟨rfl, ?_⟩
    · rw [ei]
      exact ⟨st.1, st.2.1, isT⟩
    · exact I.turnedL (ch := [e, it]) keep hf
  · exact wpAny_pyIter_enum st.1.choose_spec q
def iEn (ta : TA) : TI := fun σ H R => ta σ H fun vs H1 => ∃ (a : Addr) (xs : List V), vs = [.ref a] ∧ H1 a = some (.tup xs) ∧ R (ItEn a) H1
/-- for .., .. in enumerate(a tuple) -/
theorem pi_en {X : Cx} {e : Expr} {ta : TA} {p pos tpos : Pos} {elts : List Expr} {kk : Nat} (hg : Gl X "enumerate") (hm : X.mg "enumerate" = none) (ha : PA X [e] ta) (hs : starEach [e] X.env = [(false, eval e X.env)] := by rfl) :
    PI X (.Tuple elts kk tpos) (.Call (.Name "enumerate" p) [e] [] pos) (iEn ta) := by
  constructor
  intro pins s σ H R I h
  refine Call_ (ld_blt I hg hm boot_enumerate (PyProof.Rows.callWith_type1 (thn (ha.run pos pins s σ H _ I h) ?_) hs rfl))
  rintro us s1 ⟨vs, H1, I1, r, a, xs, rfl, hq, q⟩
  match us, r with
  | [u], .cons ru .nil =>
    obtain rfl : u = Value.ref a := ru
    obtain ⟨its, rv, isT, _⟩ := I1.tuple (SqT.of hq)
    refine call_en isT fun h1 en ti keep => wpAny_pyIter_enum en ?_
    refine ⟨_, [s1.heap.objs.size + 1, s1.heap.objs.size], _, _, H1, rfl, I1.kept (t' := s1.toks) keep, en_turn a _ _, ⟨⟨.none, en⟩, ti, Nat.succ_ne_self _⟩, fun b hb => ?_, q⟩
    have big : s1.heap.objs.size ≤ b := by
      rcases List.mem_cons.mp hb with z | z
      · rw [z]; exact Nat.le_succ _
      · rw [List.mem_singleton.mp z]; exact Nat.le_refl _
    exact I1.fpOk big (I1.hok.fresh big)
/-- the loop by an invariant of its own -/
theorem for_en {a : Addr} {xs : List V} {g : TG} {tb : TS} {D : Ends} {σ : L2.St} {H : Hp} (Pv : Nat → L2.St → Hp → Prop) (h0 : Pv 0 σ H) (hl : ∀ i σ H, Pv i σ H → H a = some (.tup xs))
    (hs : ∀ (i : Nat) x σ H p, xs[i]? = some x → Pv i σ H → H p = Option.none → g (.ref p) σ (upd H p (.tup [.int (i : Nat), x])) fun σ2 H2 => tb { D with nx := Pv (i + 1), ct := Pv (i + 1), bk := D.nx } σ2 H2) (hd : ∀ σ H, Pv xs.length σ H → D.nx σ H) :
    ∃ W : Nat → Nat → L2.St → Hp → Prop, (∃ m, W 0 m σ H) ∧ ∀ i m σ H, W i m σ H → ((ItEn a).stop i H ∧ D.nx σ H) ∨ ((ItEn a).go i H ∧ ∃ N : L2.St → Hp → Prop, (∀ σ' H', N σ' H' → ∃ m', m' < m ∧ W (i + 1) m' σ' H') ∧ ∀ x H', (ItEn a).yld i H x H' → g x σ H' fun σ2 H2 => tb { D with nx := N, ct := N, bk := D.nx } σ2 H2) := by
  refine ⟨fun i m σ H => i + m = xs.length ∧ Pv i σ H, ⟨_, Nat.zero_add _, h0⟩, ?_⟩
  intro i m σ H ⟨em, p⟩
  have q := hl i σ H p
  cases m with
  | zero =>
    have ei : i = xs.length := em
    rw [ei] at p ⊢
    exact .inl ⟨⟨xs, q, rfl⟩, hd σ H p⟩
  | succ m =>
    have lt : i < xs.length := by omega
    have hx : xs[i]? = some xs[i] := List.getElem?_eq_getElem lt
    refine .inr ⟨⟨xs, _, q, hx⟩, Pv (i + 1), fun σ' H' p' => ⟨m, Nat.lt_succ_self m, by omega, p'⟩, ?_⟩
    rintro y H' ⟨t, x, rfl, nt, rfl, hy⟩
    obtain rfl : x = xs[i] := Option.some.inj ((hy xs q).symm.trans hx)
    exact hs i _ σ H t hx p nt
end K9
set_option Elab.async false
set_option linter.all false
set_option maxRecDepth 100000
set_option maxHeartbeats 4000000
/-! Web's making, which may raise BadWeb. -/
namespace K9
open PySem L2
abbrev sBad : Stmt := inClass (top 3) 0
abbrev sWebI : Stmt := inClass (top 47) 0
/-! ### a new instance whose __init__ may raise, what is raised being wished for at the caller's slots -/
section
open PySem.Spec PyProof.Rows
variable {X : Cx} {CX : CXT} {k : Nat} {f C : Addr} {fd : FuncData} {ps : List Str} {sp : Sp} {E : L2.St → XK} {x : Str} {p pos : Pos} {e : Expr} {es : List Expr} {t : TA}
def tMakeS (C : Addr) (sp : Sp) (E : L2.St → XK) (t : TA) : TE := fun σ H Q => t σ H fun vs H1 => ∀ (o d : Addr), H1 o = none → H1 d = none → d ≠ o → sp (.ref o :: vs) (upd (upd H1 d (.own o)) o (.ins C d [])) (fun v H2 => v = .non ∧ Q (.ref o) H2) (E σ)
theorem pe_makeS (M : Mk X.K C f) (F : FnOk X.prog X.w X.K X.mg X.base CX k f fd ps sp) (hr : Room (k + 1) X.A) (hg : Gl X x) (hm : X.mg x = some (.ref C)) (hb : Binds X.K fd ps []) (hx : ∀ σ, PassesAt CX X σ (E σ))
    (ha : PA X (e :: es) t) (hdb : (x == ("__debug__" : Str)) = false := by decide) (he : starEach (e :: es) X.env = (false, eval e X.env) :: starEach es X.env := by rfl) (hpl : (backTo pos (starEach es X.env)).any (·.1) = false := by rfl) :
    PE X (.Call (.Name x p) (e :: es) [] pos) (tMakeS C sp E t) := by
  constructor
  intro pins s σ H Q I h
  refine wpAny_Call_Name_kw (ld_glob I hg hm ?_ hdb)
  refine PySem.W.callWith_K (h₀ := X.base) I.ok.mod.kin M.kp (thn (ha.run pos pins s σ H _ I h) ?_) he hpl
  rintro us s1 ⟨vs, H1, I1, r, q⟩
  refine ⟨I1.kIn, ?_⟩
  let o := s1.heap.objs.size + 1
  have q' := q o s1.heap.objs.size (I1.hok.fresh (Nat.le_succ _)) (I1.hok.fresh (Nat.le_refl _)) (Nat.ne_of_lt (Nat.lt_succ_self _))
  have J := Inv.made (C := C) I1
  have rr : Vals (V.ref o :: vs) (Value.ref o :: us) := .cons rfl r
  have len : (Value.ref o :: us).length = ps.length := rr.length ▸ F.len _ _ _ _ q'
  have bind := hb _ (Value.ref o :: us) J.kIn (by rw [List.append_nil]; exact len)
  rw [List.append_nil] at bind
  refine wpAny_call (make_map (f := f) I1.kIn M.makes M.init (beq_iff_eq.mp M.fn) (codeAny_mono (F.run _ X.stack _ _ ⟨Value.ref o :: us, []⟩ _ _ _ (E σ) (hr.make C us []) (J.env0.make C us []) bind rr q') ?_))
  intro out s2 z
  match out, z with
  | .error er, z => exact hx σ pins _ _ er s2 J z
  | .ok (.ret u), z =>
    obtain ⟨v, H2, J2, rv, ev, qq⟩ := J.after z
    subst ev
    exact ⟨rv, .ref o, H2, J2, rfl, qq⟩
  | .ok .next, z => exact z.elim
  | .ok .brk, z => exact z.elim
  | .ok .cont, z => exact z.elim
end
/-! ### BadWeb -/
structure BadC (K : PySem.W.Frag) (mg : Str → Option Value) (C fI : Addr) : Prop where
  ex : OexC K C
  iC : PySem.W.findIn K (.ref C) "__init__" = some (some (.ref fI))
  tI : PySem.W.typeIn K (.ref fI) = some (.type "function")
  gC : mg "BadWeb" = some (.ref C)
  noP : PySem.W.findIn K (.ref C) "part" = some none
def spBad (C : Addr) : Sp := fun vs H Q _ => ∃ (a : Addr) (v : V), vs = [.ref a, v] ∧ H a = some (exo a C none) ∧ ∀ d, H d = none → d ≠ a → Q .non (upd (upd H d (exd d [("part", v)])) a (exo a C (some d)))
section
variable {P : Program} {w : World} {K : PySem.W.Frag} {mg : Str → Option Value} {base : Heap}
theorem scBad : FnScope ["self", "part"] ["self", "part"] (defScope sBad) := ⟨rfl, rfl, rfl, by decide +kernel, rfl, by decide +kernel, by decide +kernel⟩
theorem ok_bad {f C : Addr} {fd : FuncData} (F : L2.Fun K "__init__" "BadWeb.__init__" sBad f fd) (B : BadC K mg C f) : FnOk P w K mg base CX0 1 f fd ["self", "part"] (spBad C) := by
  refine F.ok scBad (fun vs H Q E h => ?_) (fun cdv A outer s H vs Q E hr h => ?_)
  · obtain ⟨a, v, rfl, _⟩ := h
    rfl
  · obtain ⟨a, v, rfl, ha, k⟩ := h
    exact ⟨_, pss_one (ps_ost (pv 0) (pv 1)), _, rfl, _, rfl, a, C, rfl, B.ex, B.noP, .inl ⟨ha, fun d nd ne => k d nd ne⟩⟩
/-- what is left behind a raise BadWeb(v) -/
theorem bad_end {H : Hp} {C a d : Addr} {v : V} (na : H a = none) (nd : (upd H a (exo a C none)) d = none) (ne : d ≠ a) :
    let H2 := upd (upd (upd H a (exo a C none)) d (exd d [("part", v)])) a (exo a C (some d))
    H2 a = some (exo a C (some d)) ∧ H2 d = some (exd d [("part", v)]) ∧ H d = none ∧ Ext H (upd (del H2 a) d (.xd [("part", v)])) := by
  have nd0 : H d = none := by rw [upd_ne ne] at nd; exact nd
  refine ⟨upd_same, by rw [upd_ne ne, upd_same], nd0, fun b o e => ?_⟩
  have h1 := ne_of_none e na
  have h2 := ne_of_none e nd0
  rw [upd_ne h2, del_ne h1, upd_ne h1, upd_ne h2, upd_ne h1]
  exact e
/-! ### Web.__init__ -/
/-- a Web's attributes, in the order in which they are stored -/
def wf (m : Int) (y : V) : List (Str × V) := [("many", V.int m), ("arrows", y)]
def okMany (x : V) : Prop := ∃ m : Int, x = .int m ∧ 1 ≤ m ∧ m ≤ 8
def BadPart (H : Hp) (x y v : V) : Prop := (¬ okMany x ∧ v = .str "many") ∨ ∃ m : Int, x = .int m ∧ 1 ≤ m ∧ m ≤ 8 ∧
  ((v = .str "arrows" ∧ ¬ ∃ b xs, y = .ref b ∧ H b = some (.tup xs) ∧ xs.length ≤ 12) ∨
    ∃ (b : Addr) (xs : List V) (k : Nat) (z : V), y = .ref b ∧ H b = some (.tup xs) ∧ xs.length ≤ 12 ∧ v = .int (k : Int) ∧ xs[k]? = some z ∧ ¬ isArr H m z ∧ ∀ i u, i < k → xs[i]? = some u → isArr H m u)
def spWebI (K : PySem.W.Frag) (CW CB : Addr) : Sp := fun vs H Q E => ∃ (p dx : Addr) (x y : V), vs = [.ref p, x, y] ∧ H p = some (.ins CW dx []) ∧ Th K H 0 x ∧ Th K H 2 y ∧
  (∀ (m : Int) (b : Addr) (xs : List V) (H' : Hp), x = .int m → 1 ≤ m → m ≤ 8 → y = .ref b → H b = some (.tup xs) → xs.length ≤ 12 → (∀ z ∈ xs, isArr H m z) → H' p = some (.ins CW dx (wf m y)) → (∀ c o, c ≠ p → H c = some o → H' c = some o) → Q .non H') ∧
  (∀ (v : V) (d : Addr) (H' : Hp), BadPart H x y v → H d = none → H' d = some (.xd [("part", v)]) → Ext H H' → E (.ref CB) (some d) H')
structure WebC (K : PySem.W.Frag) (mg : Str → Option Value) (C : Addr) : Prop where
  cl : Cls K C
  nM : NoAttr K C "many"
  nA : NoAttr K C "arrows"
  mgC : mg "Web" = some (.ref C)
  mp : ∃ t, mg "MOST_PLACES" = some (.int 8 t)
  ma : ∃ t, mg "MOST_ARROWS" = some (.int 12 t)
theorem isArr.ext {H H' : Hp} {m : Int} {x : V} (e : Ext H H') (h : isArr H m x) : isArr H' m x := by
  obtain ⟨a, p, q, ex, ha, r⟩ := h
  exact ⟨a, p, q, ex, e _ _ ha, r⟩
theorem scWebI : FnScope ["self", "many", "arrows", "at", "arrow"] ["self", "many", "arrows"] (defScope sWebI) := ⟨rfl, rfl, rfl, by decide +kernel, rfl, by decide +kernel, by decide +kernel⟩
theorem ok_webI {f fB CW CB : Addr} {fd fdB : FuncData} (F : L2.Fun K "__init__" "Web.__init__" sWebI f fd) (T : Gb mg) (W : WebC K mg CW) (B : BadC K mg CB fB) (FB : FnOk P w K mg base CX0 1 fB fdB ["self", "part"] (spBad CB)) (bB : Binds K fdB ["self", "part"] [])
    (cN : Cal P w K mg base 2 "is_number" (spNumber K) []) (cA : Cal P w K mg base 3 "is_arrow" (spArrow K) []) : FnOk P w K mg base (L2.CX P w) 4 f fd ["self", "many", "arrows"] (spWebI K CW CB) := by
  obtain ⟨t8, h8⟩ := W.mp
  obtain ⟨t12, h12⟩ := W.ma
  refine F.okX scWebI (fun vs H Q E h => ?_) (fun cdv A outer s H vs Q E hr h => ?_)
  · obtain ⟨p, dx, x, y, rfl, _⟩ := h
    rfl
  · obtain ⟨p, dx, x, y, rfl, hp, tx, ty, kQ, kE⟩ := h
    have hr2 : Room 2 _ := hr.mono (by decide)
    refine ⟨_, C8.pss_cut (ps_if (PW.pt (pw_or (pt_not (pt_val (C8.pe_c cN hr (by decide) (by rfl) (pa_cons (pe_glob (v := .int 8) rfl h8 ⟨_, rfl⟩) (pa_cons (pv 1) pa_nil))))) (pw_or1 (pt_cmpR op_eq (pv 1) pe_int (nomark _)))))
        (pss_one (ps_raise rfl (takes_of rfl rfl rfl rfl) (pmk_oex B.ex B.iC B.tI FB hr2 bB .nil pass0 (by rfl) B.gC (pa_cons pe_str pa_nil)))) pss_nil)
      (C8.pss_cut (ps_if (PW.pt (pw_or (pt_not (pt_val (pe_callB call_isi (by rfl) T.isi (by decide +kernel) (pa_cons (pv 2) (pa_cons (pe_bltn (v := .ty "tuple") (by rfl) T.tup (by decide +kernel) rfl) pa_nil)))))
          (pw_or1 (pt_cmpR op_gt (pe_callB call_len_seq (by rfl) T.len PySem.boot_len (pa_cons (pv 2) pa_nil)) (pe_glob (v := .int 12) rfl h12 ⟨_, rfl⟩) (nomark _)))))
        (pss_one (ps_raise rfl (takes_of rfl rfl rfl rfl) (pmk_oex B.ex B.iC B.tI FB hr2 bB .nil pass0 (by rfl) B.gC (pa_cons pe_str pa_nil)))) pss_nil)
      (pss_cons (ps_for (passes_of rfl) rfl (pi_en (by rfl) T.enum (pa_cons (pv 2) pa_nil)) (pg_tup rfl (pgs_cons (pg_name (i := 3) scWebI.nd rfl (Or.inl rfl)) (pgs_cons (pg_name (i := 4) scWebI.nd rfl (Or.inl rfl)) pgs_nil)))
        (pss_one (ps_if (pt_not (pt_val (C8.pe_c cA hr (by decide) (by rfl) (pa_cons (pv 1) (pa_cons (pv 4) pa_nil)))))
          (pss_one (ps_raise rfl (takes_of rfl rfl rfl rfl) (pmk_oex B.ex B.iC B.tI FB hr2 bB .nil pass0 (by rfl) B.gC (pa_cons (pv 3) pa_nil)))) pss_nil)))
      (pss_cons (ps_fld (pv 0) (pv 1) rfl) (pss_one (ps_fld (pv 0) (pv 2) rfl))))), ?_⟩
    -- the raise, told once
    have out : ∀ (H1 : Hp) (v : V), Ext H H1 → BadPart H x y v → ∀ a, H1 a = Option.none → spBad CB (.ref a :: ([v] ++ [])) (upd H1 a (exo a CB Option.none))
        (fun u H2 => u = .non ∧ ∃ (d : Addr) (fs : List (Str × V)), H2 a = some (exo a CB (some d)) ∧ H2 d = some (exd d fs) ∧ H1 d = Option.none ∧ E (.ref CB) (some d) (upd (del H2 a) d (.xd fs))) (fun _ _ _ => False) := by
      intro H1 v e bp a na
      refine ⟨a, v, rfl, upd_same, fun d nd ne => ⟨rfl, d, [(("part" : Str), v)], ?_⟩⟩
      obtain ⟨h1, h2, h3, h4⟩ := bad_end (v := v) na nd ne
      refine ⟨h1, h2, h3, kE v d _ bp ?_ upd_same (e.trans h4)⟩
      cases q : H d with
      | none => rfl
      | some o =>
        rw [e d o q] at h3
        cases h3
    refine ⟨fun σ' H' => σ' = [some (.ref p), some x, some y, Option.none, Option.none] ∧ H' = H ∧ okMany x, ?_, ?_⟩
    · refine ⟨_, rfl, 8, x, rfl, tx, _, rfl, ?_⟩
      cases hx : numV 8 x with
      | false =>
        refine iteT (iteT ⟨by decide, out H _ Ext.rfl' (.inl ⟨?_, rfl⟩)⟩)
        rintro ⟨m, rfl, h1, h2⟩
        rw [numV_true.mpr ⟨m, rfl, by omega, h2⟩] at hx
        cases hx
      | true =>
        obtain ⟨m, rfl, h1, h2⟩ := numV_true.mp hx
        refine iteF ⟨_, rfl, rfl, _, rfl, ?_⟩
        refine ite2 (fun z => ?_) (fun z => ?_)
        · have hm0 : V.int m = V.int 0 := of_decide_eq_true z
          refine ⟨by decide, out H _ Ext.rfl' (.inl ⟨?_, rfl⟩)⟩
          rintro ⟨m', e, h3, h4⟩
          cases e
          cases hm0
          omega
        · have hm0 : ¬ V.int m = V.int 0 := fun q => z (decide_eq_true q)
          refine ⟨rfl, rfl, m, rfl, ?_, h2⟩
          have : m ≠ 0 := fun q => hm0 (by rw [q])
          omega
    · rintro σ' H' ⟨rfl, rfl, m, rfl, hm1, hm8⟩
      have ty' := ty
      unfold Th at ty'
      obtain ⟨t, tyx, _, _, kt⟩ := ty'
      refine ⟨fun σ' H1 => σ' = [some (.ref p), some (.int m), some y, Option.none, Option.none] ∧ H1 = H' ∧ ∃ b xs, y = .ref b ∧ H' b = some (.tup xs) ∧ xs.length ≤ 12 ∧ ∀ z ∈ xs, Th K H' 1 z, ?_, ?_⟩
      · rcases kt with ⟨kt, nt⟩ | ⟨kt, b, xs, rfl, hb, it⟩
        · refine ⟨_, rfl, y, .ty "tuple", t, .type "tuple", _, rfl, .ty _, tyx, kt, _, rfl, ?_⟩
          refine iteT (iteT ⟨by decide, out H' _ Ext.rfl' (.inr ⟨m, rfl, hm1, hm8, .inl ⟨rfl, ?_⟩⟩)⟩)
          rintro ⟨b, xs, e, hb, _⟩
          obtain ⟨o, h1, h2⟩ := nt b e
          rw [hb] at h1
          cases h1
          exact absurd rfl (h2 xs)
        · refine ⟨_, rfl, _, .ty "tuple", t, .type "tuple", _, rfl, .ty _, tyx, kt, _, rfl, ?_⟩
          refine iteF ⟨_, rfl, b, xs, rfl, .inr (SqT.of hb), _, _, rfl, rfl, _, rfl, ?_⟩
          refine ite2 (fun z => ?_) (fun z => ?_)
          · have hl := of_decide_eq_true z
            refine ⟨by decide, out H' _ Ext.rfl' (.inr ⟨m, rfl, hm1, hm8, .inl ⟨rfl, ?_⟩⟩)⟩
            rintro ⟨b', xs', e, hb', hl'⟩
            cases e
            rw [hb] at hb'
            cases hb'
            omega
          · have hl : ¬ (12 : Int) < (xs.length : Int) := fun q => z (decide_eq_true q)
            exact ⟨rfl, rfl, b, xs, rfl, hb, by omega, it⟩
      · rintro σ' H1 ⟨rfl, rfl, b, xs, rfl, hb, hl, it⟩
        refine ⟨_, rfl, b, xs, rfl, hb, for_en (a := b) (xs := xs) (fun i σ' H2 => (∃ u v, σ' = [some (.ref p), some (.int m), some (.ref b), u, v]) ∧ Ext H1 H2 ∧ ∀ j z, j < i → xs[j]? = some z → isArr H1 m z)
          ⟨⟨_, _, rfl⟩, Ext.rfl', fun j z h => absurd h (Nat.not_lt_zero j)⟩ (fun i σ' H2 h => h.2.1 _ _ hb) ?_ ?_⟩
        · rintro i z σ' H2 q hz ⟨⟨u, v, rfl⟩, e2, arr⟩ nq
          have e3 : Ext H1 (upd H2 q (.tup [.int (i : Nat), z])) := e2.trans (Ext.upd nq)
          refine ⟨q, _, rfl, SqT.of upd_same, rfl, _, _, rfl, _, _, rfl, rfl, ?_⟩
          refine ⟨_, rfl, _, rfl, m, z, rfl, (it z (List.mem_of_getElem? hz)).ext e3, fun b' H3 hb' e4 => ⟨_, rfl, ?_⟩⟩
          have back : isArr (upd H2 q (.tup [.int (i : Nat), z])) m z → isArr H1 m z := by
            rintro ⟨c, p1, q1, rfl, hc, r⟩
            have tz := it _ (List.mem_of_getElem? hz)
            unfold Th at tz
            obtain ⟨_, _, _, _, tz⟩ := tz
            rcases tz with ⟨_, nz⟩ | ⟨_, c', ys, e, hc', _⟩
            · obtain ⟨o, h1, h2⟩ := nz c rfl
              rw [e3 _ _ h1] at hc
              cases hc
              exact absurd rfl (h2 _)
            · cases e
              have := (e3 _ _ hc').symm.trans hc
              cases this
              exact ⟨c, p1, q1, rfl, hc', r⟩
          cases b' with
          | true =>
            refine iteF ⟨⟨_, _, rfl⟩, e3.trans e4, fun j y hj hy => ?_⟩
            rcases Nat.lt_succ_iff_lt_or_eq.mp hj with hj | rfl
            · exact arr j y hj hy
            · rw [hz] at hy
              cases hy
              exact back (hb'.mp rfl)
          | false =>
            refine iteT ⟨_, rfl, (by show 1 ≤ 1000; decide), out H3 _ (e3.trans e4) (.inr ⟨m, rfl, hm1, hm8, .inr ⟨b, xs, i, z, rfl, hb, hl, rfl, hz, fun q => ?_, fun j u hj hu => arr j u hj hu⟩⟩)⟩
            have := hb'.mpr (q.ext e3)
            cases this
        · rintro σ' H2 ⟨⟨u, v, rfl⟩, e2, arr⟩
          refine ⟨_, rfl, _, rfl, p, CW, dx, [], rfl, e2 _ _ hp, W.cl, W.nM, (by show 0 < 1000; decide), _, rfl, _, rfl, p, CW, dx, _, rfl, upd_same, W.cl, W.nA, (by show 1 < 1000; decide), ?_⟩
          refine kQ m b xs _ rfl hm1 hm8 rfl hb hl (fun z hz => ?_) ?_ (fun c o nc e => ?_)
          · obtain ⟨j, hj⟩ := List.mem_iff_getElem?.mp hz
            exact arr j z (List.getElem?_eq_some_iff.mp hj).1 hj
          · rw [upd_same]
            rfl
          · rw [upd_ne nc, upd_ne nc]
            exact e2 _ _ e
end
end K9
set_option Elab.async false
set_option linter.all false
set_option maxRecDepth 100000
set_option maxHeartbeats 4000000
/-! Tuples of tuples of ints as data, Web.__eq__, == of webs. -/
namespace K9
open PySem L2
abbrev sWebE : Stmt := inClass (top 47) 1
/-! ### tuples of tuples of ints -/
def dT (ll : List (List Int)) : PyData := .tuple (ll.map fun l => .tuple (l.map .int))
theorem eqv_ints : ∀ l k : List Int, PyData.eqvAll (l.map .int) (k.map .int) = decide (l = k)
  | [], [] => by simp [PyData.eqvAll]
  | [], y :: k => by simp [PyData.eqvAll]
  | x :: l, [] => by simp [PyData.eqvAll]
  | x :: l, y :: k => by
    have ih := eqv_ints l k
    simp only [List.map_cons, PyData.eqvAll, PyData.eqv, ih]
    by_cases h : x = y <;> by_cases g : l = k <;> simp [h, g]
theorem eqv_lists : ∀ l k : List (List Int), PyData.eqvAll (l.map fun l => .tuple (l.map .int)) (k.map fun l => .tuple (l.map .int)) = decide (l = k)
  | [], [] => by simp [PyData.eqvAll]
  | [], y :: k => by simp [PyData.eqvAll]
  | x :: l, [] => by simp [PyData.eqvAll]
  | x :: l, y :: k => by
    have ih := eqv_lists l k
    simp only [List.map_cons, PyData.eqvAll, PyData.eqv, ih, eqv_ints]
    by_cases h : x = y <;> by_cases g : l = k <;> simp [h, g]
theorem eqv_dT (l k : List (List Int)) : PyData.eqv (dT l) (dT k) = decide (l = k) := by
  show PyData.eqvAll _ _ = _
  exact eqv_lists l k
theorem lay_ints : ∀ l : List Int, PyData.canLayAll0 (l.map .int) = true ∧ PyData.depthAll (l.map .int) = 0
  | [] => ⟨by simp [PyData.canLayAll0], by simp [PyData.depthAll]⟩
  | x :: l => by
    obtain ⟨h, g⟩ := lay_ints l
    exact ⟨by simp [PyData.canLayAll0, PyData.canLay0, h], by simp [PyData.depthAll, PyData.depth, g]⟩
theorem lay_lists : ∀ l : List (List Int), PyData.canLayAll0 (l.map fun l => .tuple (l.map .int)) = true ∧ PyData.depthAll (l.map fun l => .tuple (l.map .int)) ≤ 1
  | [] => ⟨by simp [PyData.canLayAll0], by simp [PyData.depthAll]⟩
  | x :: l => by
    obtain ⟨h, g⟩ := lay_lists l
    obtain ⟨h1, g1⟩ := lay_ints x
    refine ⟨by simp [PyData.canLayAll0, PyData.canLay0, h, h1], ?_⟩
    simp only [List.map_cons, PyData.depthAll, PyData.depth, g1]
    omega
theorem shaped_dT (l : List (List Int)) : SeqAt.shaped (dT l) = true := by
  obtain ⟨h, g⟩ := lay_lists l
  refine Bool.and_eq_true_iff.mpr ⟨by unfold dT; rw [PyData.canLay0]; exact h, decide_eq_true ?_⟩
  unfold dT
  rw [PyData.depth]
  exact Nat.le_trans (Nat.succ_le_succ g) (by decide)
/-- a tuple of tuples of ints stands at b -/
def TT (H : Hp) (b : Addr) (ll : List (List Int)) : Prop := ∃ as : List Addr, H b = some (.tup (as.map V.ref)) ∧ Paired (fun a l => H a = some (.tup (l.map V.int))) as ll
theorem Paired.imp' {α β : Type} {F G : α → β → Prop} (h : ∀ a b, F a b → G a b) : ∀ {l : List α} {k : List β}, Paired F l k → Paired G l k
  | _, _, .nil => .nil
  | _, _, .cons a r => .cons (h _ _ a) (Paired.imp' h r)
theorem TT.ext {H H' : Hp} {b : Addr} {ll : List (List Int)} (e : Ext H H') (h : TT H b ll) : TT H' b ll := by
  obtain ⟨as, h1, h2⟩ := h
  exact ⟨as, e _ _ h1, Paired.imp' (fun a l h => e _ _ h) h2⟩
theorem dp_ints {K : PySem.W.Frag} {H : Hp} : ∀ l : List Int, DpAll K H (l.map V.int) (l.map .int)
  | [] => .nil
  | x :: l => .cons (.int x) (dp_ints l)
theorem dp_lists {K : PySem.W.Frag} {H : Hp} : ∀ {as : List Addr} {ll : List (List Int)}, Paired (fun a l => H a = some (.tup (l.map V.int))) as ll → DpAll K H (as.map V.ref) (ll.map fun l => .tuple (l.map .int))
  | _, _, .nil => .nil
  | _, _, .cons h r => .cons (.tup (SqT.of h) (dp_ints _)) (dp_lists r)
theorem TT.dp {K : PySem.W.Frag} {H : Hp} {b : Addr} {ll : List (List Int)} (h : TT H b ll) : Dp K H (.ref b) (dT ll) := by
  obtain ⟨as, h1, h2⟩ := h
  exact .tup (SqT.of h1) (dp_lists h2)
/-! ### == by an own __eq__ -/
section
open PySem.Spec PyProof.Rows
variable {X : Cx} {CX : CXT} {k : Nat} {f C : Addr} {fd : FuncData} {ps : List Str} {sp : Sp}
def rOwn (K : PySem.W.Frag) (C : Addr) (sp : Sp) : R2 := fun x y H Q => ∃ (a dx : Addr) (fs : List (Str × V)) (t : Value), x = .ref a ∧ H a = some (.ins C dx fs) ∧ TyX K H y t ∧ PySem.W.notFirst K C t = true ∧ sp [x, y] H (fun v H' => (∃ b, v = .bl b) ∧ Q v H') E0
theorem op_own (F : FnOk X.prog X.w X.K X.mg X.base CX0 k f fd ps sp) (hs : PySem.W.findIn X.K (.ref C) "__eq__" = some (some (.ref f))) (hf : PySem.W.isFn X.K (.ref f) = true) (hb : Binds X.K fd ps []) (hr : Room k X.A) : OpR X (compareOp .Eq) (rOwn X.K C sp) := by
  rintro pins s σ H x y v u Q I rx ry ⟨a, dx, fs, t, rfl, ha, ty, nf, q⟩
  obtain rfl : v = Value.ref a := rx
  obtain ⟨mA, J, _⟩ := ins_get I.hok ha
  obtain ⟨od, J, _⟩ := J.look
  obtain ⟨G, Z, g, _⟩ := kit_of I ry ty
  obtain ⟨m, fr⟩ := I.fr
  show wpAny (model X.prog X.w) X.A (richCompare .Eq (.ref a) u) (EP X pins σ Q) X.xe s
  refine PySem.W.cmp_K (op := .Eq) (tb := t) hr.units0 fr I.ok.mod.kin J (Z.ty _ _ I.kIn g) nf hs hf ?_
  refine wpAny_mono (run_fn (vs := [V.ref a, y]) F hr hb .nil pass0 I (.cons rfl (.cons ry .nil)) (show sp ([V.ref a, y] ++ []) H _ E0 from q)) ?_ fun _ _ x => x
  rintro w s' ⟨z, H', I', rz, ⟨b, rfl⟩, qz⟩
  cases rz
  exact ⟨.bl b, H', I', rfl, qz⟩
end
/-! ### Web.__eq__ -/
/-- a Web stands at p, of so many places, with the arrows at b -/
def WebAt (C : Addr) (H : Hp) (p : Addr) (m : Int) (b : Addr) : Prop := ∃ dx, H p = some (.ins C dx (wf m (.ref b)))
/-- what isinstance asks of a class for its instances -/
structure IsC (K : PySem.W.Frag) (C : Addr) : Prop where
  cl : Cls K C
  ha : PySem.W.findIn K (.ref C) "__class__" = some (some (.builtin "object.__class__"))
  hn : PySem.W.specialIn K (.builtin "object.__class__") "__get__" = some (some (.builtin "getset_descriptor.__get__"))
  ht : PySem.W.takesIn K (.builtin "object.__class__") = some true
  hm : PySem.W.mroIn K C (.type "object") = some true
theorem IsC.ty {K : PySem.W.Frag} {C : Addr} (I : IsC K C) {H : Hp} {p dx : Addr} {fs : List (Str × V)} (h : H p = some (.ins C dx fs)) : TyX K H (.ref p) (.ref C) := .base (.ins h I.cl I.ha I.hn I.ht I.hm)
theorem kit_same {K : PySem.W.Frag} {C : Addr} : PySem.W.kitOne K (.ref C) (.ref C) = some true := by
  unfold PySem.W.kitOne
  rw [if_pos (beq_self_eq_true _)]
def spEqW (K : PySem.W.Frag) (C : Addr) : Sp := fun vs H Q _ => ∃ (p : Addr) (z : V) (m : Int) (b : Addr) (ll : List (List Int)), vs = [.ref p, z] ∧ WebAt C H p m b ∧ TT H b ll ∧
  ((∃ (p' : Addr) (m' : Int) (b' : Addr) (kk : List (List Int)), z = .ref p' ∧ WebAt C H p' m' b' ∧ TT H b' kk ∧ Q (.bl (decide (m = m') && decide (ll = kk))) H) ∨ ∃ t, TyX K H z t ∧ PySem.W.kitOne K t (.ref C) = some false ∧ Q (.bl false) H)
theorem wf_many (m : Int) (y : V) : (wf m y).lookup ("many" : Str) = some (.int m) := by rfl
theorem wf_arrows (m : Int) (y : V) : (wf m y).lookup ("arrows" : Str) = some y := by rfl
section
variable {P : Program} {w : World} {K : PySem.W.Frag} {mg : Str → Option Value} {base : Heap}
theorem scWebE : FnScope ["self", "other"] ["self", "other"] (defScope sWebE) := ⟨rfl, rfl, rfl, by decide +kernel, rfl, by decide +kernel, by decide +kernel⟩
theorem ok_webE {f CW : Addr} {fd : FuncData} (F : L2.Fun K "__eq__" "Web.__eq__" sWebE f fd) (T : Gb mg) (W : WebC K mg CW) (IW : IsC K CW) : FnOk P w K mg base CX0 1 f fd ["self", "other"] (spEqW K CW) := by
  refine F.ok scWebE (fun vs H Q E h => ?_) (fun cdv A outer s H vs Q E hr h => ?_)
  · obtain ⟨p, z, m, b, ll, rfl, _⟩ := h
    rfl
  · obtain ⟨p, z, m, b, ll, rfl, ⟨dx, hp⟩, tt, k⟩ := h
    refine ⟨_, pss_one (ps_ret (pe_and (pe_callB call_isi (by rfl) T.isi (by decide +kernel) (pa_cons (pv 1) (pa_cons (pe_glob (v := .ref CW) rfl W.mgC rfl) pa_nil)))
      (pe_and (pe_cmpR op_eq (pe_fld (pv 0) rfl) (pe_fld (pv 1) rfl) (nomark _)) (pe_one (pe_cmpR (op_eqD hr.units) (pe_fld (pv 0) rfl) (pe_fld (pv 1) rfl) (nomark _)))))), ?_⟩
    rcases k with ⟨p', m', b', kk, rfl, ⟨dx', hp'⟩, tt', q⟩ | ⟨t, ty, kt, q⟩
    · refine ⟨_, rfl, _, .ref CW, .ref CW, .ref CW, _, rfl, .own CW, IW.ty hp', kit_same, _, rfl, ?_⟩
      refine iteT ⟨_, rfl, p, CW, dx, _, _, rfl, hp, W.cl, W.nM, wf_many _ _, _, rfl, p', CW, dx', _, _, rfl, hp', W.cl, W.nM, wf_many _ _, rfl, _, rfl, ?_⟩
      by_cases hm : m = m'
      · subst hm
        rw [decide_eq_true (rfl : V.int m = V.int m)]
        refine iteT ⟨_, rfl, p, CW, dx, _, _, rfl, hp, W.cl, W.nA, wf_arrows _ _, _, rfl, p', CW, dx', _, _, rfl, hp', W.cl, W.nA, wf_arrows _ _, _, _, tt.dp, tt'.dp, shaped_dT _, shaped_dT _, ?_⟩
        rw [eqv_dT]
        rw [decide_eq_true (rfl : m = m), Bool.true_and] at q
        exact q
      · have h1 : decide (V.int m = V.int m') = false := decide_eq_false fun z => hm (by injection z)
        rw [h1]
        rw [decide_eq_false hm, Bool.false_and] at q
        exact iteF q
    · refine ⟨_, rfl, z, .ref CW, t, .ref CW, _, rfl, .own CW, ty, kt, _, rfl, ?_⟩
      exact iteF q
end
end K9
set_option Elab.async false
set_option linter.all false
set_option maxRecDepth 100000
set_option maxHeartbeats 4000000
/-! Own exceptions held as values: made, asked for their class, read. -/
namespace K9
open PySem L2
section
open PySem.Spec PyProof.Rows
structure ExIs (K : PySem.W.Frag) (C : Addr) : Prop where
  cls : (PySem.W.clsIn K C).isSome = true
  ga : PySem.W.findIn K (.ref C) "__getattribute__" = some (some (.builtin "BaseException.__getattribute__"))
  gt : PySem.W.findIn K (.ref C) "__getattr__" = some none
  sb : PySem.W.subIn K (.ref C) (.type "BaseException") = some true
  ha : PySem.W.findIn K (.ref C) "__class__" = some (some (.builtin "object.__class__"))
  hn : PySem.W.specialIn K (.builtin "object.__class__") "__get__" = some (some (.builtin "getset_descriptor.__get__"))
  ht : PySem.W.takesIn K (.builtin "object.__class__") = some true
  hm : PySem.W.mroIn K C (.type "object") = some true
/-- an exception of the class C stands at a, its fields (if it has a dict) are fs -/
def ExAt (H : Hp) (a C : Addr) (fs : List (Str × V)) : Prop := (H a = some (exo a C none) ∧ fs = []) ∨ ∃ dd, H a = some (exo a C (some dd)) ∧ H dd = some (exd dd fs)
theorem ExAt.ext {H H' : Hp} {a C : Addr} {fs : List (Str × V)} (e : Ext H H') (h : ExAt H a C fs) : ExAt H' a C fs := by
  rcases h with ⟨h, f⟩ | ⟨dd, h1, h2⟩
  · exact .inl ⟨e _ _ h, f⟩
  · exact .inr ⟨dd, e _ _ h1, e _ _ h2⟩
variable {X : Cx} {pins : List (Addr × Obj)} {σ : L2.St} {H : Hp} {s : Shared} {a C : Addr} {fs : List (Str × V)}
theorem exo_inst (I : Inv X pins σ H s) (h : ExAt H a C fs) : ∃ oe od, PySem.W.InstAt s.heap a oe C od := by
  rcases h with ⟨h, _⟩ | ⟨dd, h, hd⟩
  · obtain ⟨t1, there⟩ := exo_at I.hok h
    exact ⟨_, none, there, rfl, rfl, trivial⟩
  · obtain ⟨t1, there⟩ := exo_at I.hok h
    obtain ⟨mA, ns, _⟩ := exd_at I.hok hd
    obtain ⟨od, ho, _⟩ := lookIn_ns ns
    exact ⟨_, some od, there, rfl, rfl, ho⟩
def rIsV (K : PySem.W.Frag) : List V → Hp → VK → Prop := fun xs H Q => ∃ (a C : Addr) (fs : List (Str × V)) (c : V) (cv : Value) (b : Bool), xs = [.ref a, c] ∧ ClsV c cv ∧ ExIs K C ∧ ExAt H a C fs ∧ PySem.W.kitOne K (.ref C) cv = some b ∧ Q (.bl b) H
def rIsVT (K : PySem.W.Frag) : List V → Hp → VK → Prop := fun xs H Q => ∃ (a C : Addr) (fs : List (Str × V)) (tp : Addr) (cs : List V) (us : List Value) (b : Bool), xs = [.ref a, .ref tp] ∧ H tp = some (.tup cs) ∧ Paired ClsV cs us ∧ ExIs K C ∧ ExAt H a C fs ∧ PySem.W.kitAny K (.ref C) us = some b ∧ Q (.bl b) H
theorem call_isV : CallR X (.builtin "isinstance") (rIsV X.K) := by
  rintro pins s σ H xs us Q I r ⟨a, C, fs, c, cv, b, rfl, hc, T, hx, e, q⟩
  obtain ⟨u1, u2, rfl, r1, r2⟩ := vals2 r
  obtain rfl : u1 = Value.ref a := r1
  obtain rfl := hc.eq r2
  obtain ⟨oe, od, J⟩ := exo_inst I hx
  exact PySem.W.kia_one (PySem.W.kitx_exc T.cls T.ga T.gt T.sb T.ha T.hn T.ht T.hm) I.kIn J e (fun z => nomatch z) fun tk => ⟨.bl b, H, I.tok tk, rfl, q⟩
theorem call_isVT : CallR X (.builtin "isinstance") (rIsVT X.K) := by
  rintro pins s σ H xs us Q I r ⟨a, C, fs, tp, cs, ws, b, rfl, hT, hc, T, hx, e, q⟩
  obtain ⟨u1, u2, rfl, r1, r2⟩ := vals2 r
  obtain rfl : u1 = Value.ref a := r1
  obtain rfl : u2 = Value.ref tp := r2
  obtain ⟨oe, od, J⟩ := exo_inst I hx
  obtain ⟨_, its, rv, ⟨oc, od', dt, sl⟩, h1, h2, n, h3⟩ := (show ObjOk X.prog X.w H s.heap tp (.tup cs) from I.hok tp _ hT)
  obtain rfl := ClsV.all hc rv
  simp only at h2 h3
  subst h2 h3
  exact PySem.W.kia_tup (PySem.W.kitx_exc T.cls T.ga T.gt T.sb T.ha T.hn T.ht T.hm) I.kIn J h1 e (fun z => nomatch z) fun tk => ⟨.bl b, H, I.tok tk, rfl, q⟩
/-- e.f of an exception held as a value -/
def tExf (K : PySem.W.Frag) (f : Str) (te : TE) : TE := fun σ H Q => te σ H fun x H1 => ∃ (a C : Addr) (fs : List (Str × V)) (v : V), x = .ref a ∧ XfC K C ∧ PySem.W.findIn K (.ref C) f = some none ∧ ExAt H1 a C fs ∧ fs.lookup f = some v ∧ Q v H1
theorem pe_exf {e : Expr} {te : TE} {pos : Pos} {n : Str} (he : PE X e te) (hb : attributeBase e n X.env (eval e X.env) = eval e X.env := by rfl) :
    PE X (.Attribute e n pos) (tExf X.K n te) := by
  refine ⟨fun pins s σ H Q I h => ?_⟩
  refine attr_of hb (thn (he.run pins s σ H _ I h) fun u s1 hh => ?_)
  obtain ⟨x, H1, I1, rx, a, C, fs, v, ex, T, hno, hx, l, q⟩ := hh
  subst ex
  obtain rfl : u = Value.ref a := rx
  rcases hx with ⟨_, rfl⟩ | ⟨dd, h, hd⟩
  · cases l
  obtain ⟨t1, there⟩ := exo_at I1.hok h
  obtain ⟨mA, hns, hr⟩ := exd_at I1.hok hd
  obtain ⟨od, ho, hl⟩ := lookIn_ns hns
  obtain ⟨u, hu, ru⟩ := RelO.some_of (v := v) (o := mA n) (by rw [← l]; exact hr n)
  have J : PySem.W.InstAt s1.heap a _ C (some od) := ⟨there, rfl, rfl, ho⟩
  exact HandSPX.exc_get I1.kIn J T.ga T.gg T.exC (PySem.W.findObj_own T.hdC hno rfl (by rw [hl, hu])) (handed_of ru) ⟨v, H1, I1.tok _, ru, q⟩
/-- an exception made and kept -/
def tExv (C : Addr) (sp : Sp) (t : TA) : TE := fun σ H Q => t σ H fun vs H1 => vs.length ≤ 1000 ∧ ∀ a, H1 a = none → sp (.ref a :: vs) (upd H1 a (exo a C none)) (fun v H2 => v = .non ∧ Q (.ref a) H2) E0
variable {CX : CXT} {x : Str} {fI : Addr} {k : Nat} {fd : FuncData} {ps : List Str} {sp : Sp} {e : Expr} {es : List Expr} {ta : TA} {p pos : Pos}
theorem run_exv (T : OexC X.K C) (hi : PySem.W.findIn X.K (.ref C) "__init__" = some (some (.ref fI))) (ht : PySem.W.typeIn X.K (.ref fI) = some (.type "function"))
    (G : FnOk X.prog X.w X.K X.mg X.base CX k fI fd ps sp) (hr : Room (k + 1) X.A) (hb : Binds X.K fd ps []) (hx : Passes CX X E0) {vs : List V} {us : List Value} {H1 : Hp} {s1 : Shared} {Q : VK} (I1 : Inv X pins σ H1 s1) (r1 : Vals vs us) (hz : vs.length ≤ 1000)
    (q1 : ∀ a, H1 a = none → sp (.ref a :: vs) (upd H1 a (exo a C none)) (fun v H2 => v = .non ∧ Q (.ref a) H2) E0) : wpAny (model X.prog X.w) X.A (call (.ref C) us) (EP X pins σ Q) X.xe s1 := by
  obtain ⟨_, _, _, _, bm, _, _, _, _, _, _, _, _, _, _, inCls, mroOk⟩ := T.cls
  obtain ⟨h0, gs, dr, tk, os⟩ := s1
  let o := h0.objs.size + 1
  let h1 := (h0.push (PySem.W.kdv_tup us)).push (PySem.HandSPX.excO C h0.objs.size)
  have new : H1 o = none := I1.hok.fresh (Nat.le_succ _)
  have old : ∀ b u, h0.get? b = some u → h1.get? b = some u := fun b u q => Heap.get?_push_of_some _ (Heap.get?_push_of_some _ q)
  have there : h1.get? o = some (PySem.HandSPX.excO C h0.objs.size) := by
    show ((h0.push (PySem.W.kdv_tup us)).push (PySem.HandSPX.excO C h0.objs.size)).get? (h0.objs.size + 1) = _
    heap_get
  have J : Inv X pins σ (upd H1 o (exo o C none)) ⟨h1, gs, dr, tk, os⟩ := I1.laid (t' := tk) old (Nat.le_succ _) (exo_ok there)
  have asked := q1 o new
  have rr : Vals (V.ref o :: vs) (Value.ref o :: us) := .cons rfl r1
  have len : (Value.ref o :: us).length = ps.length := rr.length ▸ G.len _ _ _ _ asked
  have bound := hb _ (Value.ref o :: us) J.kIn (by rw [List.append_nil]; exact len)
  rw [List.append_nil] at bound
  have few : us.length ≤ sizeLine := by
    have q : us.length = vs.length := (Paired.length r1).symm
    rw [q, sizeLine_eq]
    omega
  have body := G.run _ X.stack _ _ ⟨Value.ref o :: us, []⟩ _ _ _ E0 (hr.make C us []) (J.env0.make C us []) bound rr asked
  refine wpAny_call (PySem.HandSPX.call_own F.excBase_ValueError (fun Y => PySem.HandSPX.refsVE_contains Y bm mroOk) (I1.kIn _ _ inCls) (PySem.W.looks_findIn I1.kIn hi) (fun self => PySem.W.bind_fn I1.kIn self ht) few (codeAny_mono body ?_))
  intro out s2 z
  match out, z with
  | .error er, z => exact hx pins σ _ _ er s2 J z
  | .ok (.ret u), z =>
    obtain ⟨v, H2, J2, rv, ev, qq⟩ := J.after z
    subst ev
    exact ⟨rv, .ref o, H2, J2, rfl, qq⟩
  | .ok .next, z => exact z.elim
  | .ok .brk, z => exact z.elim
  | .ok .cont, z => exact z.elim
theorem pe_exv (T : OexC X.K C) (iC : PySem.W.findIn X.K (.ref C) "__init__" = some (some (.ref fI))) (tI : PySem.W.typeIn X.K (.ref fI) = some (.type "function"))
    (F1 : FnOk X.prog X.w X.K X.mg X.base CX k fI fd ps sp) (hr : Room (k + 1) X.A) (hb : Binds X.K fd ps []) (hx : Passes CX X E0) (hg : Gl X x) (hm : X.mg x = some (.ref C)) (ha : PA X (e :: es) ta)
    (hdb : (x == ("__debug__" : Str)) = false := by decide) (he : starEach (e :: es) X.env = (false, eval e X.env) :: starEach es X.env := by rfl) (hpl : (backTo pos (starEach es X.env)).any (·.1) = false := by rfl) :
    PE X (.Call (.Name x p) (e :: es) [] pos) (tExv C sp ta) := by
  refine ⟨fun pins s σ H Q I h => ?_⟩
  refine wpAny_Call_Name_kw (ld_glob I hg hm ?_ hdb)
  refine PySem.W.callWith_K (h₀ := X.base) I.ok.mod.kin T.kC (thn (ha.run pos pins s σ H _ I h) fun us s1 ⟨vs, H1, I1, r1, hz, q1⟩ => ⟨I1.kIn, ?_⟩) he hpl
  exact run_exv T iC tI F1 hr hb hx I1 r1 hz q1
theorem pe_exv0 (T : OexC X.K C) (iC : PySem.W.findIn X.K (.ref C) "__init__" = some (some (.ref fI))) (tI : PySem.W.typeIn X.K (.ref fI) = some (.type "function"))
    (F1 : FnOk X.prog X.w X.K X.mg X.base CX k fI fd ps sp) (hr : Room (k + 1) X.A) (hb : Binds X.K fd ps []) (hx : Passes CX X E0) (hg : Gl X x) (hm : X.mg x = some (.ref C))
    (hdb : (x == ("__debug__" : Str)) = false := by decide) :
    PE X (.Call (.Name x p) [] [] pos) (tExv C sp tNil) := by
  refine ⟨fun pins s σ H Q I h => ?_⟩
  refine wpAny_Call_Name_kw (ld_glob I hg hm ?_ hdb)
  obtain ⟨hz, q1⟩ := h
  exact PySem.W.callWith_K0 I.kIn T.kC (run_exv (us := []) T iC tI F1 hr hb hx I .nil hz q1)
end
end K9
set_option Elab.async false
set_option linter.all false
set_option maxRecDepth 100000
set_option maxHeartbeats 8000000
/-! The 33 errors: their making, their marks, their fields. -/
namespace K9
open PySem L2
def nmE : Nat → Str
  | 0 => "BadTable"
  | 1 => "BadWeb"
  | 2 => "BadPicture"
  | 3 => "BadTower"
  | 4 => "BadText"
  | 5 => "TooMany"
  | 6 => "NoName"
  | 7 => "BadAnswer"
  | 8 => "NoColumn"
  | 9 => "NoFit"
  | 10 => "NoNumber"
  | 11 => "NoPrime"
  | 12 => "NoPolynomial"
  | 13 => "OtherWeb"
  | 14 => "NoLeading"
  | 15 => "NoPictures"
  | 16 => "NoBases"
  | 17 => "NoPieces"
  | 18 => "NoRow"
  | 19 => "Endless"
  | 20 => "Finite"
  | 21 => "NoTurn"
  | 22 => "NoWord"
  | 23 => "NoLine"
  | 24 => "NoStretch"
  | 25 => "NoReaches"
  | 26 => "NoStops"
  | 27 => "NoExchange"
  | 28 => "NoBars"
  | 29 => "NoKind"
  | 30 => "NoPencil"
  | 31 => "NoSizes"
  | 32 => "NothingDone"
  | _ => "WebError"
/-- the field names of the first eight -/
def fldE : Nat → Str
  | 0 => "part"
  | 1 => "part"
  | 2 => "part"
  | 3 => "index"
  | 4 => "line"
  | 5 => "most"
  | 6 => "name"
  | _ => ""
/-- what the top has written of the classes; 33 is WebError -/
structure ClsE (K : PySem.W.Frag) (mg : Str → Option Value) (c fi : Nat → Addr) : Prop where
  ex : ∀ i, i < 34 → OexC K (c i)
  is : ∀ i, i < 34 → ExIs K (c i)
  xf : ∀ i, i < 34 → XfC K (c i)
  mgc : ∀ i, i < 34 → mg (nmE i) = some (.ref (c i))
  kit : ∀ i j, i < 34 → j < 34 → PySem.W.kitOne K (.ref (c i)) (.ref (c j)) = some (decide (i = j) || decide (j = 33))
  te : ∀ i j, i < 34 → j < 34 → PySem.W.exmOne K (.ref (c i)) (.ref (c j)) = some (decide (i = j) || decide (j = 33))
  ve : ∀ i, i < 34 → PySem.W.kitOne K (.ref (c i)) (.type "ValueError") = some true
  ni : ∀ i, i < 34 → PySem.W.kitAny K (.ref (c i)) [.type "LookupError", .type "ArithmeticError", .type "TypeError"] = some false
  iC : ∀ i, i < 34 → PySem.W.findIn K (.ref (c i)) "__init__" = some (some (.ref (fi i)))
  tI : ∀ i, i < 34 → PySem.W.typeIn K (.ref (fi i)) = some (.type "function")
  fW : ∀ i, 8 ≤ i → i < 34 → fi i = fi 33
  nf : ∀ i, i < 7 → PySem.W.findIn K (.ref (c i)) (fldE i) = some none
  na : PySem.W.findIn K (.ref (c 7)) "arrow" = some none
  nc : PySem.W.findIn K (.ref (c 7)) "column" = some none
def spF1 (C : Addr) (f : Str) : Sp := fun vs H Q _ => ∃ (a : Addr) (v : V), vs = [.ref a, v] ∧ H a = some (exo a C none) ∧ ∀ d, H d = none → d ≠ a → Q .non (upd (upd H d (exd d [(f, v)])) a (exo a C (some d)))
def spF2 (C : Addr) : Sp := fun vs H Q _ => ∃ (a : Addr) (v u : V), vs = [.ref a, v, u] ∧ H a = some (exo a C none) ∧ ∀ d H', H d = none → d ≠ a → H' a = some (exo a C (some d)) → H' d = some (exd d [("column", u), ("arrow", v)]) → (∀ b, b ≠ a → b ≠ d → H' b = H b) → Q .non H'
def spF0 : Sp := fun vs H Q _ => ∃ a : Addr, vs = [.ref a] ∧ Q .non H
section
variable {P : Program} {w : World} {K : PySem.W.Frag} {mg : Str → Option Value} {base : Heap}
abbrev sI0 : Stmt := inClass (top 2) 0
theorem scI0 : FnScope ["self", "part"] ["self", "part"] (defScope sI0) := ⟨rfl, rfl, rfl, by decide +kernel, rfl, by decide +kernel, by decide +kernel⟩
theorem ok_i0 {f C : Addr} {fd : FuncData} (F : L2.Fun K "__init__" "BadTable.__init__" sI0 f fd) (ex : OexC K C) (no : PySem.W.findIn K (.ref C) "part" = some none) : FnOk P w K mg base CX0 1 f fd ["self", "part"] (spF1 C "part") := by
  refine F.ok scI0 (fun vs H Q E h => ?_) (fun cdv A outer s H vs Q E hr h => ?_)
  · obtain ⟨a, v, rfl, _⟩ := h
    rfl
  · obtain ⟨a, v, rfl, ha, k⟩ := h
    exact ⟨_, pss_one (ps_ost (pv 0) (pv 1)), _, rfl, _, rfl, a, C, rfl, ex, no, .inl ⟨ha, fun d nd ne => k d nd ne⟩⟩
abbrev sI1 : Stmt := inClass (top 3) 0
theorem scI1 : FnScope ["self", "part"] ["self", "part"] (defScope sI1) := ⟨rfl, rfl, rfl, by decide +kernel, rfl, by decide +kernel, by decide +kernel⟩
theorem ok_i1 {f C : Addr} {fd : FuncData} (F : L2.Fun K "__init__" "BadWeb.__init__" sI1 f fd) (ex : OexC K C) (no : PySem.W.findIn K (.ref C) "part" = some none) : FnOk P w K mg base CX0 1 f fd ["self", "part"] (spF1 C "part") := by
  refine F.ok scI1 (fun vs H Q E h => ?_) (fun cdv A outer s H vs Q E hr h => ?_)
  · obtain ⟨a, v, rfl, _⟩ := h
    rfl
  · obtain ⟨a, v, rfl, ha, k⟩ := h
    exact ⟨_, pss_one (ps_ost (pv 0) (pv 1)), _, rfl, _, rfl, a, C, rfl, ex, no, .inl ⟨ha, fun d nd ne => k d nd ne⟩⟩
abbrev sI2 : Stmt := inClass (top 4) 0
theorem scI2 : FnScope ["self", "part"] ["self", "part"] (defScope sI2) := ⟨rfl, rfl, rfl, by decide +kernel, rfl, by decide +kernel, by decide +kernel⟩
theorem ok_i2 {f C : Addr} {fd : FuncData} (F : L2.Fun K "__init__" "BadPicture.__init__" sI2 f fd) (ex : OexC K C) (no : PySem.W.findIn K (.ref C) "part" = some none) : FnOk P w K mg base CX0 1 f fd ["self", "part"] (spF1 C "part") := by
  refine F.ok scI2 (fun vs H Q E h => ?_) (fun cdv A outer s H vs Q E hr h => ?_)
  · obtain ⟨a, v, rfl, _⟩ := h
    rfl
  · obtain ⟨a, v, rfl, ha, k⟩ := h
    exact ⟨_, pss_one (ps_ost (pv 0) (pv 1)), _, rfl, _, rfl, a, C, rfl, ex, no, .inl ⟨ha, fun d nd ne => k d nd ne⟩⟩
abbrev sI3 : Stmt := inClass (top 5) 0
theorem scI3 : FnScope ["self", "index"] ["self", "index"] (defScope sI3) := ⟨rfl, rfl, rfl, by decide +kernel, rfl, by decide +kernel, by decide +kernel⟩
theorem ok_i3 {f C : Addr} {fd : FuncData} (F : L2.Fun K "__init__" "BadTower.__init__" sI3 f fd) (ex : OexC K C) (no : PySem.W.findIn K (.ref C) "index" = some none) : FnOk P w K mg base CX0 1 f fd ["self", "index"] (spF1 C "index") := by
  refine F.ok scI3 (fun vs H Q E h => ?_) (fun cdv A outer s H vs Q E hr h => ?_)
  · obtain ⟨a, v, rfl, _⟩ := h
    rfl
  · obtain ⟨a, v, rfl, ha, k⟩ := h
    exact ⟨_, pss_one (ps_ost (pv 0) (pv 1)), _, rfl, _, rfl, a, C, rfl, ex, no, .inl ⟨ha, fun d nd ne => k d nd ne⟩⟩
abbrev sI4 : Stmt := inClass (top 7) 0
theorem scI4 : FnScope ["self", "line"] ["self", "line"] (defScope sI4) := ⟨rfl, rfl, rfl, by decide +kernel, rfl, by decide +kernel, by decide +kernel⟩
theorem ok_i4 {f C : Addr} {fd : FuncData} (F : L2.Fun K "__init__" "BadText.__init__" sI4 f fd) (ex : OexC K C) (no : PySem.W.findIn K (.ref C) "line" = some none) : FnOk P w K mg base CX0 1 f fd ["self", "line"] (spF1 C "line") := by
  refine F.ok scI4 (fun vs H Q E h => ?_) (fun cdv A outer s H vs Q E hr h => ?_)
  · obtain ⟨a, v, rfl, _⟩ := h
    rfl
  · obtain ⟨a, v, rfl, ha, k⟩ := h
    exact ⟨_, pss_one (ps_ost (pv 0) (pv 1)), _, rfl, _, rfl, a, C, rfl, ex, no, .inl ⟨ha, fun d nd ne => k d nd ne⟩⟩
abbrev sI5 : Stmt := inClass (top 8) 0
theorem scI5 : FnScope ["self", "most"] ["self", "most"] (defScope sI5) := ⟨rfl, rfl, rfl, by decide +kernel, rfl, by decide +kernel, by decide +kernel⟩
theorem ok_i5 {f C : Addr} {fd : FuncData} (F : L2.Fun K "__init__" "TooMany.__init__" sI5 f fd) (ex : OexC K C) (no : PySem.W.findIn K (.ref C) "most" = some none) : FnOk P w K mg base CX0 1 f fd ["self", "most"] (spF1 C "most") := by
  refine F.ok scI5 (fun vs H Q E h => ?_) (fun cdv A outer s H vs Q E hr h => ?_)
  · obtain ⟨a, v, rfl, _⟩ := h
    rfl
  · obtain ⟨a, v, rfl, ha, k⟩ := h
    exact ⟨_, pss_one (ps_ost (pv 0) (pv 1)), _, rfl, _, rfl, a, C, rfl, ex, no, .inl ⟨ha, fun d nd ne => k d nd ne⟩⟩
abbrev sI6 : Stmt := inClass (top 9) 0
theorem scI6 : FnScope ["self", "name"] ["self", "name"] (defScope sI6) := ⟨rfl, rfl, rfl, by decide +kernel, rfl, by decide +kernel, by decide +kernel⟩
theorem ok_i6 {f C : Addr} {fd : FuncData} (F : L2.Fun K "__init__" "NoName.__init__" sI6 f fd) (ex : OexC K C) (no : PySem.W.findIn K (.ref C) "name" = some none) : FnOk P w K mg base CX0 1 f fd ["self", "name"] (spF1 C "name") := by
  refine F.ok scI6 (fun vs H Q E h => ?_) (fun cdv A outer s H vs Q E hr h => ?_)
  · obtain ⟨a, v, rfl, _⟩ := h
    rfl
  · obtain ⟨a, v, rfl, ha, k⟩ := h
    exact ⟨_, pss_one (ps_ost (pv 0) (pv 1)), _, rfl, _, rfl, a, C, rfl, ex, no, .inl ⟨ha, fun d nd ne => k d nd ne⟩⟩
abbrev sI7 : Stmt := inClass (top 6) 0
theorem scI7 : FnScope ["self", "arrow", "column"] ["self", "arrow", "column"] (defScope sI7) := ⟨rfl, rfl, rfl, by decide +kernel, rfl, by decide +kernel, by decide +kernel⟩
theorem ok_i7 {f C : Addr} {fd : FuncData} (F : L2.Fun K "__init__" "BadAnswer.__init__" sI7 f fd) (ex : OexC K C) (no : PySem.W.findIn K (.ref C) "arrow" = some none) (no2 : PySem.W.findIn K (.ref C) "column" = some none) : FnOk P w K mg base CX0 1 f fd ["self", "arrow", "column"] (spF2 C) := by
  refine F.ok scI7 (fun vs H Q E h => ?_) (fun cdv A outer s H vs Q E hr h => ?_)
  · obtain ⟨a, v, u, rfl, _⟩ := h
    rfl
  · obtain ⟨a, v, u, rfl, ha, k⟩ := h
    refine ⟨_, pss_cons (ps_ost (pv 0) (pv 1)) (pss_one (ps_ost (pv 0) (pv 2))), _, rfl, _, rfl, a, C, rfl, ex, no, .inl ⟨ha, fun d nd ne => ?_⟩⟩
    refine ⟨_, rfl, _, rfl, a, C, rfl, ex, no2, .inr ⟨d, _, upd_same, by rw [upd_ne ne, upd_same], by show 1 ≤ 900; decide, ?_⟩⟩
    exact k d _ nd ne (by rw [upd_ne ne.symm, upd_same]) upd_same fun b h1 h2 => by rw [upd_ne h2, upd_ne h1, upd_ne h2]
abbrev sI33 : Stmt := inClass (top 1) 0
theorem scI33 : FnScope ["self"] ["self"] (defScope sI33) := ⟨rfl, rfl, rfl, by decide +kernel, rfl, by decide +kernel, by decide +kernel⟩
theorem ok_i33 {f : Addr} {fd : FuncData} (F : L2.Fun K "__init__" "WebError.__init__" sI33 f fd) : FnOk P w K mg base CX0 1 f fd ["self"] spF0 := by
  refine F.ok scI33 (fun vs H Q E h => ?_) (fun cdv A outer s H vs Q E hr h => ?_)
  · obtain ⟨a, rfl, _⟩ := h
    rfl
  · obtain ⟨a, rfl, k⟩ := h
    exact ⟨_, pss_one ps_pass, k⟩
/-- all the __init__s -/
structure Inis (P : Program) (w : World) (K : PySem.W.Frag) (mg : Str → Option Value) (base : Heap) (c fi : Nat → Addr) : Prop where
  g0 : ∃ fd, FnOk P w K mg base CX0 1 (fi 0) fd ["self", "part"] (spF1 (c 0) "part") ∧ Binds K fd ["self", "part"] []
  g1 : ∃ fd, FnOk P w K mg base CX0 1 (fi 1) fd ["self", "part"] (spF1 (c 1) "part") ∧ Binds K fd ["self", "part"] []
  g2 : ∃ fd, FnOk P w K mg base CX0 1 (fi 2) fd ["self", "part"] (spF1 (c 2) "part") ∧ Binds K fd ["self", "part"] []
  g3 : ∃ fd, FnOk P w K mg base CX0 1 (fi 3) fd ["self", "index"] (spF1 (c 3) "index") ∧ Binds K fd ["self", "index"] []
  g4 : ∃ fd, FnOk P w K mg base CX0 1 (fi 4) fd ["self", "line"] (spF1 (c 4) "line") ∧ Binds K fd ["self", "line"] []
  g5 : ∃ fd, FnOk P w K mg base CX0 1 (fi 5) fd ["self", "most"] (spF1 (c 5) "most") ∧ Binds K fd ["self", "most"] []
  g6 : ∃ fd, FnOk P w K mg base CX0 1 (fi 6) fd ["self", "name"] (spF1 (c 6) "name") ∧ Binds K fd ["self", "name"] []
  g7 : ∃ fd, FnOk P w K mg base CX0 1 (fi 7) fd ["self", "arrow", "column"] (spF2 (c 7)) ∧ Binds K fd ["self", "arrow", "column"] []
  g33 : ∃ fd, FnOk P w K mg base CX0 1 (fi 33) fd ["self"] spF0 ∧ Binds K fd ["self"] []
theorem Inis.g {c fi : Nat → Addr} (N : Inis P w K mg base c fi) (C : ClsE K mg c fi) (i : Nat) (h8 : 8 ≤ i) (h : i < 34) : ∃ fd, FnOk P w K mg base CX0 1 (fi i) fd ["self"] spF0 ∧ Binds K fd ["self"] [] := by
  rw [C.fW i h8 h]
  exact N.g33
abbrev sMarks : Stmt := top 57
theorem scMarks : FnScope ["one", "found"] ["one"] (defScope sMarks) := ⟨rfl, rfl, rfl, by decide +kernel, rfl, by decide +kernel, by decide +kernel⟩
/-- the marks of an error of the class i -/
def marksOf (i : Nat) : List Bool := (List.range 33).map fun j => decide (i = j)
def spMarks (K : PySem.W.Frag) (c : Nat → Addr) : Sp := fun vs H Q _ => ∃ (a : Addr) (i : Nat) (fs : List (Str × V)), vs = [.ref a] ∧ i < 34 ∧ ExAt H a (c i) fs ∧ ∀ (r : Addr) (H' : Hp), Ext H H' → H' r = some (.lst ((marksOf i).map V.bl)) → Q (.ref r) H'
theorem ok_marks {f : Addr} {fd : FuncData} {c fi : Nat → Addr} (F : L2.Fun K "_law_marks" "_law_marks" sMarks f fd) (T : Gb mg) (C : ClsE K mg c fi) : FnOk P w K mg base CX0 1 f fd ["one"] (spMarks K c) := by
  refine F.ok scMarks (fun vs H Q E h => ?_) (fun cdv A outer s H vs Q E hr h => ?_)
  · obtain ⟨a, i, fs, rfl, _⟩ := h
    rfl
  · obtain ⟨a, i, fs, rfl, hi, hx, k⟩ := h
    have is := C.is i hi
    have m0 : mg "BadTable" = some (.ref (c 0)) := C.mgc 0 (by decide)
    have k0 : PySem.W.kitOne K (.ref (c i)) (.ref (c 0)) = some (decide (i = 0)) := (C.kit i 0 hi (by decide)).trans (congrArg some (Bool.or_false _))
    have m1 : mg "BadWeb" = some (.ref (c 1)) := C.mgc 1 (by decide)
    have k1 : PySem.W.kitOne K (.ref (c i)) (.ref (c 1)) = some (decide (i = 1)) := (C.kit i 1 hi (by decide)).trans (congrArg some (Bool.or_false _))
    have m2 : mg "BadPicture" = some (.ref (c 2)) := C.mgc 2 (by decide)
    have k2 : PySem.W.kitOne K (.ref (c i)) (.ref (c 2)) = some (decide (i = 2)) := (C.kit i 2 hi (by decide)).trans (congrArg some (Bool.or_false _))
    have m3 : mg "BadTower" = some (.ref (c 3)) := C.mgc 3 (by decide)
    have k3 : PySem.W.kitOne K (.ref (c i)) (.ref (c 3)) = some (decide (i = 3)) := (C.kit i 3 hi (by decide)).trans (congrArg some (Bool.or_false _))
    have m4 : mg "BadText" = some (.ref (c 4)) := C.mgc 4 (by decide)
    have k4 : PySem.W.kitOne K (.ref (c i)) (.ref (c 4)) = some (decide (i = 4)) := (C.kit i 4 hi (by decide)).trans (congrArg some (Bool.or_false _))
    have m5 : mg "TooMany" = some (.ref (c 5)) := C.mgc 5 (by decide)
    have k5 : PySem.W.kitOne K (.ref (c i)) (.ref (c 5)) = some (decide (i = 5)) := (C.kit i 5 hi (by decide)).trans (congrArg some (Bool.or_false _))
    have m6 : mg "NoName" = some (.ref (c 6)) := C.mgc 6 (by decide)
    have k6 : PySem.W.kitOne K (.ref (c i)) (.ref (c 6)) = some (decide (i = 6)) := (C.kit i 6 hi (by decide)).trans (congrArg some (Bool.or_false _))
    have m7 : mg "BadAnswer" = some (.ref (c 7)) := C.mgc 7 (by decide)
    have k7 : PySem.W.kitOne K (.ref (c i)) (.ref (c 7)) = some (decide (i = 7)) := (C.kit i 7 hi (by decide)).trans (congrArg some (Bool.or_false _))
    have m8 : mg "NoColumn" = some (.ref (c 8)) := C.mgc 8 (by decide)
    have k8 : PySem.W.kitOne K (.ref (c i)) (.ref (c 8)) = some (decide (i = 8)) := (C.kit i 8 hi (by decide)).trans (congrArg some (Bool.or_false _))
    have m9 : mg "NoFit" = some (.ref (c 9)) := C.mgc 9 (by decide)
    have k9 : PySem.W.kitOne K (.ref (c i)) (.ref (c 9)) = some (decide (i = 9)) := (C.kit i 9 hi (by decide)).trans (congrArg some (Bool.or_false _))
    have m10 : mg "NoNumber" = some (.ref (c 10)) := C.mgc 10 (by decide)
    have k10 : PySem.W.kitOne K (.ref (c i)) (.ref (c 10)) = some (decide (i = 10)) := (C.kit i 10 hi (by decide)).trans (congrArg some (Bool.or_false _))
    have m11 : mg "NoPrime" = some (.ref (c 11)) := C.mgc 11 (by decide)
    have k11 : PySem.W.kitOne K (.ref (c i)) (.ref (c 11)) = some (decide (i = 11)) := (C.kit i 11 hi (by decide)).trans (congrArg some (Bool.or_false _))
    have m12 : mg "NoPolynomial" = some (.ref (c 12)) := C.mgc 12 (by decide)
    have k12 : PySem.W.kitOne K (.ref (c i)) (.ref (c 12)) = some (decide (i = 12)) := (C.kit i 12 hi (by decide)).trans (congrArg some (Bool.or_false _))
    have m13 : mg "OtherWeb" = some (.ref (c 13)) := C.mgc 13 (by decide)
    have k13 : PySem.W.kitOne K (.ref (c i)) (.ref (c 13)) = some (decide (i = 13)) := (C.kit i 13 hi (by decide)).trans (congrArg some (Bool.or_false _))
    have m14 : mg "NoLeading" = some (.ref (c 14)) := C.mgc 14 (by decide)
    have k14 : PySem.W.kitOne K (.ref (c i)) (.ref (c 14)) = some (decide (i = 14)) := (C.kit i 14 hi (by decide)).trans (congrArg some (Bool.or_false _))
    have m15 : mg "NoPictures" = some (.ref (c 15)) := C.mgc 15 (by decide)
    have k15 : PySem.W.kitOne K (.ref (c i)) (.ref (c 15)) = some (decide (i = 15)) := (C.kit i 15 hi (by decide)).trans (congrArg some (Bool.or_false _))
    have m16 : mg "NoBases" = some (.ref (c 16)) := C.mgc 16 (by decide)
    have k16 : PySem.W.kitOne K (.ref (c i)) (.ref (c 16)) = some (decide (i = 16)) := (C.kit i 16 hi (by decide)).trans (congrArg some (Bool.or_false _))
    have m17 : mg "NoPieces" = some (.ref (c 17)) := C.mgc 17 (by decide)
    have k17 : PySem.W.kitOne K (.ref (c i)) (.ref (c 17)) = some (decide (i = 17)) := (C.kit i 17 hi (by decide)).trans (congrArg some (Bool.or_false _))
    have m18 : mg "NoRow" = some (.ref (c 18)) := C.mgc 18 (by decide)
    have k18 : PySem.W.kitOne K (.ref (c i)) (.ref (c 18)) = some (decide (i = 18)) := (C.kit i 18 hi (by decide)).trans (congrArg some (Bool.or_false _))
    have m19 : mg "Endless" = some (.ref (c 19)) := C.mgc 19 (by decide)
    have k19 : PySem.W.kitOne K (.ref (c i)) (.ref (c 19)) = some (decide (i = 19)) := (C.kit i 19 hi (by decide)).trans (congrArg some (Bool.or_false _))
    have m20 : mg "Finite" = some (.ref (c 20)) := C.mgc 20 (by decide)
    have k20 : PySem.W.kitOne K (.ref (c i)) (.ref (c 20)) = some (decide (i = 20)) := (C.kit i 20 hi (by decide)).trans (congrArg some (Bool.or_false _))
    have m21 : mg "NoTurn" = some (.ref (c 21)) := C.mgc 21 (by decide)
    have k21 : PySem.W.kitOne K (.ref (c i)) (.ref (c 21)) = some (decide (i = 21)) := (C.kit i 21 hi (by decide)).trans (congrArg some (Bool.or_false _))
    have m22 : mg "NoWord" = some (.ref (c 22)) := C.mgc 22 (by decide)
    have k22 : PySem.W.kitOne K (.ref (c i)) (.ref (c 22)) = some (decide (i = 22)) := (C.kit i 22 hi (by decide)).trans (congrArg some (Bool.or_false _))
    have m23 : mg "NoLine" = some (.ref (c 23)) := C.mgc 23 (by decide)
    have k23 : PySem.W.kitOne K (.ref (c i)) (.ref (c 23)) = some (decide (i = 23)) := (C.kit i 23 hi (by decide)).trans (congrArg some (Bool.or_false _))
    have m24 : mg "NoStretch" = some (.ref (c 24)) := C.mgc 24 (by decide)
    have k24 : PySem.W.kitOne K (.ref (c i)) (.ref (c 24)) = some (decide (i = 24)) := (C.kit i 24 hi (by decide)).trans (congrArg some (Bool.or_false _))
    have m25 : mg "NoReaches" = some (.ref (c 25)) := C.mgc 25 (by decide)
    have k25 : PySem.W.kitOne K (.ref (c i)) (.ref (c 25)) = some (decide (i = 25)) := (C.kit i 25 hi (by decide)).trans (congrArg some (Bool.or_false _))
    have m26 : mg "NoStops" = some (.ref (c 26)) := C.mgc 26 (by decide)
    have k26 : PySem.W.kitOne K (.ref (c i)) (.ref (c 26)) = some (decide (i = 26)) := (C.kit i 26 hi (by decide)).trans (congrArg some (Bool.or_false _))
    have m27 : mg "NoExchange" = some (.ref (c 27)) := C.mgc 27 (by decide)
    have k27 : PySem.W.kitOne K (.ref (c i)) (.ref (c 27)) = some (decide (i = 27)) := (C.kit i 27 hi (by decide)).trans (congrArg some (Bool.or_false _))
    have m28 : mg "NoBars" = some (.ref (c 28)) := C.mgc 28 (by decide)
    have k28 : PySem.W.kitOne K (.ref (c i)) (.ref (c 28)) = some (decide (i = 28)) := (C.kit i 28 hi (by decide)).trans (congrArg some (Bool.or_false _))
    have m29 : mg "NoKind" = some (.ref (c 29)) := C.mgc 29 (by decide)
    have k29 : PySem.W.kitOne K (.ref (c i)) (.ref (c 29)) = some (decide (i = 29)) := (C.kit i 29 hi (by decide)).trans (congrArg some (Bool.or_false _))
    have m30 : mg "NoPencil" = some (.ref (c 30)) := C.mgc 30 (by decide)
    have k30 : PySem.W.kitOne K (.ref (c i)) (.ref (c 30)) = some (decide (i = 30)) := (C.kit i 30 hi (by decide)).trans (congrArg some (Bool.or_false _))
    have m31 : mg "NoSizes" = some (.ref (c 31)) := C.mgc 31 (by decide)
    have k31 : PySem.W.kitOne K (.ref (c i)) (.ref (c 31)) = some (decide (i = 31)) := (C.kit i 31 hi (by decide)).trans (congrArg some (Bool.or_false _))
    have m32 : mg "NothingDone" = some (.ref (c 32)) := C.mgc 32 (by decide)
    have k32 : PySem.W.kitOne K (.ref (c i)) (.ref (c 32)) = some (decide (i = 32)) := (C.kit i 32 hi (by decide)).trans (congrArg some (Bool.or_false _))
    refine ⟨_, pss_cons (ps_set (i := 1) scMarks.nd rfl (Or.inl rfl) (pe_lst (pa_cons (pe_callB call_isV (by rfl) T.isi (by decide +kernel) (pa_cons (pv 0) (pa_cons (pe_glob (v := .ref (c 0)) rfl m0 rfl) pa_nil))) (pa_cons (pe_callB call_isV (by rfl) T.isi (by decide +kernel) (pa_cons (pv 0) (pa_cons (pe_glob (v := .ref (c 1)) rfl m1 rfl) pa_nil))) (pa_cons (pe_callB call_isV (by rfl) T.isi (by decide +kernel) (pa_cons (pv 0) (pa_cons (pe_glob (v := .ref (c 2)) rfl m2 rfl) pa_nil))) (pa_cons (pe_callB call_isV (by rfl) T.isi (by decide +kernel) (pa_cons (pv 0) (pa_cons (pe_glob (v := .ref (c 3)) rfl m3 rfl) pa_nil))) (pa_cons (pe_callB call_isV (by rfl) T.isi (by decide +kernel) (pa_cons (pv 0) (pa_cons (pe_glob (v := .ref (c 4)) rfl m4 rfl) pa_nil))) (pa_cons (pe_callB call_isV (by rfl) T.isi (by decide +kernel) (pa_cons (pv 0) (pa_cons (pe_glob (v := .ref (c 5)) rfl m5 rfl) pa_nil))) pa_nil))))))))
      (pss_cons (ps_set (i := 1) scMarks.nd rfl (Or.inl rfl) (pe_op op_cat (pv 1) (pe_lst (pa_cons (pe_callB call_isV (by rfl) T.isi (by decide +kernel) (pa_cons (pv 0) (pa_cons (pe_glob (v := .ref (c 6)) rfl m6 rfl) pa_nil))) (pa_cons (pe_callB call_isV (by rfl) T.isi (by decide +kernel) (pa_cons (pv 0) (pa_cons (pe_glob (v := .ref (c 7)) rfl m7 rfl) pa_nil))) (pa_cons (pe_callB call_isV (by rfl) T.isi (by decide +kernel) (pa_cons (pv 0) (pa_cons (pe_glob (v := .ref (c 8)) rfl m8 rfl) pa_nil))) (pa_cons (pe_callB call_isV (by rfl) T.isi (by decide +kernel) (pa_cons (pv 0) (pa_cons (pe_glob (v := .ref (c 9)) rfl m9 rfl) pa_nil))) (pa_cons (pe_callB call_isV (by rfl) T.isi (by decide +kernel) (pa_cons (pv 0) (pa_cons (pe_glob (v := .ref (c 10)) rfl m10 rfl) pa_nil))) (pa_cons (pe_callB call_isV (by rfl) T.isi (by decide +kernel) (pa_cons (pv 0) (pa_cons (pe_glob (v := .ref (c 11)) rfl m11 rfl) pa_nil))) pa_nil)))))))))
      (pss_cons (ps_set (i := 1) scMarks.nd rfl (Or.inl rfl) (pe_op op_cat (pv 1) (pe_lst (pa_cons (pe_callB call_isV (by rfl) T.isi (by decide +kernel) (pa_cons (pv 0) (pa_cons (pe_glob (v := .ref (c 12)) rfl m12 rfl) pa_nil))) (pa_cons (pe_callB call_isV (by rfl) T.isi (by decide +kernel) (pa_cons (pv 0) (pa_cons (pe_glob (v := .ref (c 13)) rfl m13 rfl) pa_nil))) (pa_cons (pe_callB call_isV (by rfl) T.isi (by decide +kernel) (pa_cons (pv 0) (pa_cons (pe_glob (v := .ref (c 14)) rfl m14 rfl) pa_nil))) (pa_cons (pe_callB call_isV (by rfl) T.isi (by decide +kernel) (pa_cons (pv 0) (pa_cons (pe_glob (v := .ref (c 15)) rfl m15 rfl) pa_nil))) (pa_cons (pe_callB call_isV (by rfl) T.isi (by decide +kernel) (pa_cons (pv 0) (pa_cons (pe_glob (v := .ref (c 16)) rfl m16 rfl) pa_nil))) (pa_cons (pe_callB call_isV (by rfl) T.isi (by decide +kernel) (pa_cons (pv 0) (pa_cons (pe_glob (v := .ref (c 17)) rfl m17 rfl) pa_nil))) pa_nil)))))))))
      (pss_cons (ps_set (i := 1) scMarks.nd rfl (Or.inl rfl) (pe_op op_cat (pv 1) (pe_lst (pa_cons (pe_callB call_isV (by rfl) T.isi (by decide +kernel) (pa_cons (pv 0) (pa_cons (pe_glob (v := .ref (c 18)) rfl m18 rfl) pa_nil))) (pa_cons (pe_callB call_isV (by rfl) T.isi (by decide +kernel) (pa_cons (pv 0) (pa_cons (pe_glob (v := .ref (c 19)) rfl m19 rfl) pa_nil))) (pa_cons (pe_callB call_isV (by rfl) T.isi (by decide +kernel) (pa_cons (pv 0) (pa_cons (pe_glob (v := .ref (c 20)) rfl m20 rfl) pa_nil))) (pa_cons (pe_callB call_isV (by rfl) T.isi (by decide +kernel) (pa_cons (pv 0) (pa_cons (pe_glob (v := .ref (c 21)) rfl m21 rfl) pa_nil))) (pa_cons (pe_callB call_isV (by rfl) T.isi (by decide +kernel) (pa_cons (pv 0) (pa_cons (pe_glob (v := .ref (c 22)) rfl m22 rfl) pa_nil))) (pa_cons (pe_callB call_isV (by rfl) T.isi (by decide +kernel) (pa_cons (pv 0) (pa_cons (pe_glob (v := .ref (c 23)) rfl m23 rfl) pa_nil))) pa_nil)))))))))
      (pss_cons (ps_set (i := 1) scMarks.nd rfl (Or.inl rfl) (pe_op op_cat (pv 1) (pe_lst (pa_cons (pe_callB call_isV (by rfl) T.isi (by decide +kernel) (pa_cons (pv 0) (pa_cons (pe_glob (v := .ref (c 24)) rfl m24 rfl) pa_nil))) (pa_cons (pe_callB call_isV (by rfl) T.isi (by decide +kernel) (pa_cons (pv 0) (pa_cons (pe_glob (v := .ref (c 25)) rfl m25 rfl) pa_nil))) (pa_cons (pe_callB call_isV (by rfl) T.isi (by decide +kernel) (pa_cons (pv 0) (pa_cons (pe_glob (v := .ref (c 26)) rfl m26 rfl) pa_nil))) (pa_cons (pe_callB call_isV (by rfl) T.isi (by decide +kernel) (pa_cons (pv 0) (pa_cons (pe_glob (v := .ref (c 27)) rfl m27 rfl) pa_nil))) (pa_cons (pe_callB call_isV (by rfl) T.isi (by decide +kernel) (pa_cons (pv 0) (pa_cons (pe_glob (v := .ref (c 28)) rfl m28 rfl) pa_nil))) (pa_cons (pe_callB call_isV (by rfl) T.isi (by decide +kernel) (pa_cons (pv 0) (pa_cons (pe_glob (v := .ref (c 29)) rfl m29 rfl) pa_nil))) pa_nil)))))))))
      (pss_cons (ps_set (i := 1) scMarks.nd rfl (Or.inl rfl) (pe_op op_cat (pv 1) (pe_lst (pa_cons (pe_callB call_isV (by rfl) T.isi (by decide +kernel) (pa_cons (pv 0) (pa_cons (pe_glob (v := .ref (c 30)) rfl m30 rfl) pa_nil))) (pa_cons (pe_callB call_isV (by rfl) T.isi (by decide +kernel) (pa_cons (pv 0) (pa_cons (pe_glob (v := .ref (c 31)) rfl m31 rfl) pa_nil))) (pa_cons (pe_callB call_isV (by rfl) T.isi (by decide +kernel) (pa_cons (pv 0) (pa_cons (pe_glob (v := .ref (c 32)) rfl m32 rfl) pa_nil))) pa_nil))))))
      (pss_one (ps_ret (pv 1)))))))), ?_⟩
    refine ⟨_, rfl, a, c i, fs, _, .ref (c 0), _, rfl, .own (c 0), is, hx, k0, ⟨_, rfl, a, c i, fs, _, .ref (c 1), _, rfl, .own (c 1), is, hx, k1, ⟨_, rfl, a, c i, fs, _, .ref (c 2), _, rfl, .own (c 2), is, hx, k2, ⟨_, rfl, a, c i, fs, _, .ref (c 3), _, rfl, .own (c 3), is, hx, k3, ⟨_, rfl, a, c i, fs, _, .ref (c 4), _, rfl, .own (c 4), is, hx, k4, ⟨_, rfl, a, c i, fs, _, .ref (c 5), _, rfl, .own (c 5), is, hx, k5, ⟨by show 6 ≤ sizeLine; decide, fun l0 n0 => ?_⟩⟩⟩⟩⟩⟩⟩
    have e0 : Ext H (upd H l0 (.lst [V.bl (decide (i = 0)), V.bl (decide (i = 1)), V.bl (decide (i = 2)), V.bl (decide (i = 3)), V.bl (decide (i = 4)), V.bl (decide (i = 5))])) := Ext.upd n0
    have h0 : upd H l0 (.lst [V.bl (decide (i = 0)), V.bl (decide (i = 1)), V.bl (decide (i = 2)), V.bl (decide (i = 3)), V.bl (decide (i = 4)), V.bl (decide (i = 5))]) l0 = some (.lst [V.bl (decide (i = 0)), V.bl (decide (i = 1)), V.bl (decide (i = 2)), V.bl (decide (i = 3)), V.bl (decide (i = 4)), V.bl (decide (i = 5))]) := upd_same
    generalize upd H l0 (.lst [V.bl (decide (i = 0)), V.bl (decide (i = 1)), V.bl (decide (i = 2)), V.bl (decide (i = 3)), V.bl (decide (i = 4)), V.bl (decide (i = 5))]) = H0 at *
    have x0 := hx.ext e0
    refine ⟨_, rfl, ⟨_, rfl, a, c i, fs, _, .ref (c 6), _, rfl, .own (c 6), is, x0, k6, ⟨_, rfl, a, c i, fs, _, .ref (c 7), _, rfl, .own (c 7), is, x0, k7, ⟨_, rfl, a, c i, fs, _, .ref (c 8), _, rfl, .own (c 8), is, x0, k8, ⟨_, rfl, a, c i, fs, _, .ref (c 9), _, rfl, .own (c 9), is, x0, k9, ⟨_, rfl, a, c i, fs, _, .ref (c 10), _, rfl, .own (c 10), is, x0, k10, ⟨_, rfl, a, c i, fs, _, .ref (c 11), _, rfl, .own (c 11), is, x0, k11, ⟨by show 6 ≤ sizeLine; decide, fun l1 n1 => ?_⟩⟩⟩⟩⟩⟩⟩⟩
    have e1 : Ext H0 (upd H0 l1 (.lst [V.bl (decide (i = 6)), V.bl (decide (i = 7)), V.bl (decide (i = 8)), V.bl (decide (i = 9)), V.bl (decide (i = 10)), V.bl (decide (i = 11))])) := Ext.upd n1
    have h1 : upd H0 l1 (.lst [V.bl (decide (i = 6)), V.bl (decide (i = 7)), V.bl (decide (i = 8)), V.bl (decide (i = 9)), V.bl (decide (i = 10)), V.bl (decide (i = 11))]) l1 = some (.lst [V.bl (decide (i = 6)), V.bl (decide (i = 7)), V.bl (decide (i = 8)), V.bl (decide (i = 9)), V.bl (decide (i = 10)), V.bl (decide (i = 11))]) := upd_same
    generalize upd H0 l1 (.lst [V.bl (decide (i = 6)), V.bl (decide (i = 7)), V.bl (decide (i = 8)), V.bl (decide (i = 9)), V.bl (decide (i = 10)), V.bl (decide (i = 11))]) = H1 at *
    refine ⟨l0, l1, [V.bl (decide (i = 0)), V.bl (decide (i = 1)), V.bl (decide (i = 2)), V.bl (decide (i = 3)), V.bl (decide (i = 4)), V.bl (decide (i = 5))], [V.bl (decide (i = 6)), V.bl (decide (i = 7)), V.bl (decide (i = 8)), V.bl (decide (i = 9)), V.bl (decide (i = 10)), V.bl (decide (i = 11))], rfl, rfl, e1 _ _ h0, h1, by show 12 ≤ sizeLine; decide, fun p1 q1 => ?_⟩
    have f1 : Ext H1 (upd H1 p1 (.lst ([V.bl (decide (i = 0)), V.bl (decide (i = 1)), V.bl (decide (i = 2)), V.bl (decide (i = 3)), V.bl (decide (i = 4)), V.bl (decide (i = 5))] ++ [V.bl (decide (i = 6)), V.bl (decide (i = 7)), V.bl (decide (i = 8)), V.bl (decide (i = 9)), V.bl (decide (i = 10)), V.bl (decide (i = 11))]))) := Ext.upd q1
    have g1 : upd H1 p1 (.lst ([V.bl (decide (i = 0)), V.bl (decide (i = 1)), V.bl (decide (i = 2)), V.bl (decide (i = 3)), V.bl (decide (i = 4)), V.bl (decide (i = 5))] ++ [V.bl (decide (i = 6)), V.bl (decide (i = 7)), V.bl (decide (i = 8)), V.bl (decide (i = 9)), V.bl (decide (i = 10)), V.bl (decide (i = 11))])) p1 = some (.lst [V.bl (decide (i = 0)), V.bl (decide (i = 1)), V.bl (decide (i = 2)), V.bl (decide (i = 3)), V.bl (decide (i = 4)), V.bl (decide (i = 5)), V.bl (decide (i = 6)), V.bl (decide (i = 7)), V.bl (decide (i = 8)), V.bl (decide (i = 9)), V.bl (decide (i = 10)), V.bl (decide (i = 11))]) := upd_same
    generalize upd H1 p1 (.lst ([V.bl (decide (i = 0)), V.bl (decide (i = 1)), V.bl (decide (i = 2)), V.bl (decide (i = 3)), V.bl (decide (i = 4)), V.bl (decide (i = 5))] ++ [V.bl (decide (i = 6)), V.bl (decide (i = 7)), V.bl (decide (i = 8)), V.bl (decide (i = 9)), V.bl (decide (i = 10)), V.bl (decide (i = 11))])) = G1 at *
    have E1 := e0.trans (e1.trans f1)
    have x1 := hx.ext E1
    refine ⟨_, rfl, ⟨_, rfl, a, c i, fs, _, .ref (c 12), _, rfl, .own (c 12), is, x1, k12, ⟨_, rfl, a, c i, fs, _, .ref (c 13), _, rfl, .own (c 13), is, x1, k13, ⟨_, rfl, a, c i, fs, _, .ref (c 14), _, rfl, .own (c 14), is, x1, k14, ⟨_, rfl, a, c i, fs, _, .ref (c 15), _, rfl, .own (c 15), is, x1, k15, ⟨_, rfl, a, c i, fs, _, .ref (c 16), _, rfl, .own (c 16), is, x1, k16, ⟨_, rfl, a, c i, fs, _, .ref (c 17), _, rfl, .own (c 17), is, x1, k17, ⟨by show 6 ≤ sizeLine; decide, fun l2 n2 => ?_⟩⟩⟩⟩⟩⟩⟩⟩
    have e2 : Ext G1 (upd G1 l2 (.lst [V.bl (decide (i = 12)), V.bl (decide (i = 13)), V.bl (decide (i = 14)), V.bl (decide (i = 15)), V.bl (decide (i = 16)), V.bl (decide (i = 17))])) := Ext.upd n2
    have h2 : upd G1 l2 (.lst [V.bl (decide (i = 12)), V.bl (decide (i = 13)), V.bl (decide (i = 14)), V.bl (decide (i = 15)), V.bl (decide (i = 16)), V.bl (decide (i = 17))]) l2 = some (.lst [V.bl (decide (i = 12)), V.bl (decide (i = 13)), V.bl (decide (i = 14)), V.bl (decide (i = 15)), V.bl (decide (i = 16)), V.bl (decide (i = 17))]) := upd_same
    generalize upd G1 l2 (.lst [V.bl (decide (i = 12)), V.bl (decide (i = 13)), V.bl (decide (i = 14)), V.bl (decide (i = 15)), V.bl (decide (i = 16)), V.bl (decide (i = 17))]) = H2 at *
    refine ⟨p1, l2, [V.bl (decide (i = 0)), V.bl (decide (i = 1)), V.bl (decide (i = 2)), V.bl (decide (i = 3)), V.bl (decide (i = 4)), V.bl (decide (i = 5)), V.bl (decide (i = 6)), V.bl (decide (i = 7)), V.bl (decide (i = 8)), V.bl (decide (i = 9)), V.bl (decide (i = 10)), V.bl (decide (i = 11))], [V.bl (decide (i = 12)), V.bl (decide (i = 13)), V.bl (decide (i = 14)), V.bl (decide (i = 15)), V.bl (decide (i = 16)), V.bl (decide (i = 17))], rfl, rfl, e2 _ _ g1, h2, by show 18 ≤ sizeLine; decide, fun p2 q2 => ?_⟩
    have f2 : Ext H2 (upd H2 p2 (.lst ([V.bl (decide (i = 0)), V.bl (decide (i = 1)), V.bl (decide (i = 2)), V.bl (decide (i = 3)), V.bl (decide (i = 4)), V.bl (decide (i = 5)), V.bl (decide (i = 6)), V.bl (decide (i = 7)), V.bl (decide (i = 8)), V.bl (decide (i = 9)), V.bl (decide (i = 10)), V.bl (decide (i = 11))] ++ [V.bl (decide (i = 12)), V.bl (decide (i = 13)), V.bl (decide (i = 14)), V.bl (decide (i = 15)), V.bl (decide (i = 16)), V.bl (decide (i = 17))]))) := Ext.upd q2
    have g2 : upd H2 p2 (.lst ([V.bl (decide (i = 0)), V.bl (decide (i = 1)), V.bl (decide (i = 2)), V.bl (decide (i = 3)), V.bl (decide (i = 4)), V.bl (decide (i = 5)), V.bl (decide (i = 6)), V.bl (decide (i = 7)), V.bl (decide (i = 8)), V.bl (decide (i = 9)), V.bl (decide (i = 10)), V.bl (decide (i = 11))] ++ [V.bl (decide (i = 12)), V.bl (decide (i = 13)), V.bl (decide (i = 14)), V.bl (decide (i = 15)), V.bl (decide (i = 16)), V.bl (decide (i = 17))])) p2 = some (.lst [V.bl (decide (i = 0)), V.bl (decide (i = 1)), V.bl (decide (i = 2)), V.bl (decide (i = 3)), V.bl (decide (i = 4)), V.bl (decide (i = 5)), V.bl (decide (i = 6)), V.bl (decide (i = 7)), V.bl (decide (i = 8)), V.bl (decide (i = 9)), V.bl (decide (i = 10)), V.bl (decide (i = 11)), V.bl (decide (i = 12)), V.bl (decide (i = 13)), V.bl (decide (i = 14)), V.bl (decide (i = 15)), V.bl (decide (i = 16)), V.bl (decide (i = 17))]) := upd_same
    generalize upd H2 p2 (.lst ([V.bl (decide (i = 0)), V.bl (decide (i = 1)), V.bl (decide (i = 2)), V.bl (decide (i = 3)), V.bl (decide (i = 4)), V.bl (decide (i = 5)), V.bl (decide (i = 6)), V.bl (decide (i = 7)), V.bl (decide (i = 8)), V.bl (decide (i = 9)), V.bl (decide (i = 10)), V.bl (decide (i = 11))] ++ [V.bl (decide (i = 12)), V.bl (decide (i = 13)), V.bl (decide (i = 14)), V.bl (decide (i = 15)), V.bl (decide (i = 16)), V.bl (decide (i = 17))])) = G2 at *
    have E2 := E1.trans (e2.trans f2)
    have x2 := hx.ext E2
    refine ⟨_, rfl, ⟨_, rfl, a, c i, fs, _, .ref (c 18), _, rfl, .own (c 18), is, x2, k18, ⟨_, rfl, a, c i, fs, _, .ref (c 19), _, rfl, .own (c 19), is, x2, k19, ⟨_, rfl, a, c i, fs, _, .ref (c 20), _, rfl, .own (c 20), is, x2, k20, ⟨_, rfl, a, c i, fs, _, .ref (c 21), _, rfl, .own (c 21), is, x2, k21, ⟨_, rfl, a, c i, fs, _, .ref (c 22), _, rfl, .own (c 22), is, x2, k22, ⟨_, rfl, a, c i, fs, _, .ref (c 23), _, rfl, .own (c 23), is, x2, k23, ⟨by show 6 ≤ sizeLine; decide, fun l3 n3 => ?_⟩⟩⟩⟩⟩⟩⟩⟩
    have e3 : Ext G2 (upd G2 l3 (.lst [V.bl (decide (i = 18)), V.bl (decide (i = 19)), V.bl (decide (i = 20)), V.bl (decide (i = 21)), V.bl (decide (i = 22)), V.bl (decide (i = 23))])) := Ext.upd n3
    have h3 : upd G2 l3 (.lst [V.bl (decide (i = 18)), V.bl (decide (i = 19)), V.bl (decide (i = 20)), V.bl (decide (i = 21)), V.bl (decide (i = 22)), V.bl (decide (i = 23))]) l3 = some (.lst [V.bl (decide (i = 18)), V.bl (decide (i = 19)), V.bl (decide (i = 20)), V.bl (decide (i = 21)), V.bl (decide (i = 22)), V.bl (decide (i = 23))]) := upd_same
    generalize upd G2 l3 (.lst [V.bl (decide (i = 18)), V.bl (decide (i = 19)), V.bl (decide (i = 20)), V.bl (decide (i = 21)), V.bl (decide (i = 22)), V.bl (decide (i = 23))]) = H3 at *
    refine ⟨p2, l3, [V.bl (decide (i = 0)), V.bl (decide (i = 1)), V.bl (decide (i = 2)), V.bl (decide (i = 3)), V.bl (decide (i = 4)), V.bl (decide (i = 5)), V.bl (decide (i = 6)), V.bl (decide (i = 7)), V.bl (decide (i = 8)), V.bl (decide (i = 9)), V.bl (decide (i = 10)), V.bl (decide (i = 11)), V.bl (decide (i = 12)), V.bl (decide (i = 13)), V.bl (decide (i = 14)), V.bl (decide (i = 15)), V.bl (decide (i = 16)), V.bl (decide (i = 17))], [V.bl (decide (i = 18)), V.bl (decide (i = 19)), V.bl (decide (i = 20)), V.bl (decide (i = 21)), V.bl (decide (i = 22)), V.bl (decide (i = 23))], rfl, rfl, e3 _ _ g2, h3, by show 24 ≤ sizeLine; decide, fun p3 q3 => ?_⟩
    have f3 : Ext H3 (upd H3 p3 (.lst ([V.bl (decide (i = 0)), V.bl (decide (i = 1)), V.bl (decide (i = 2)), V.bl (decide (i = 3)), V.bl (decide (i = 4)), V.bl (decide (i = 5)), V.bl (decide (i = 6)), V.bl (decide (i = 7)), V.bl (decide (i = 8)), V.bl (decide (i = 9)), V.bl (decide (i = 10)), V.bl (decide (i = 11)), V.bl (decide (i = 12)), V.bl (decide (i = 13)), V.bl (decide (i = 14)), V.bl (decide (i = 15)), V.bl (decide (i = 16)), V.bl (decide (i = 17))] ++ [V.bl (decide (i = 18)), V.bl (decide (i = 19)), V.bl (decide (i = 20)), V.bl (decide (i = 21)), V.bl (decide (i = 22)), V.bl (decide (i = 23))]))) := Ext.upd q3
    have g3 : upd H3 p3 (.lst ([V.bl (decide (i = 0)), V.bl (decide (i = 1)), V.bl (decide (i = 2)), V.bl (decide (i = 3)), V.bl (decide (i = 4)), V.bl (decide (i = 5)), V.bl (decide (i = 6)), V.bl (decide (i = 7)), V.bl (decide (i = 8)), V.bl (decide (i = 9)), V.bl (decide (i = 10)), V.bl (decide (i = 11)), V.bl (decide (i = 12)), V.bl (decide (i = 13)), V.bl (decide (i = 14)), V.bl (decide (i = 15)), V.bl (decide (i = 16)), V.bl (decide (i = 17))] ++ [V.bl (decide (i = 18)), V.bl (decide (i = 19)), V.bl (decide (i = 20)), V.bl (decide (i = 21)), V.bl (decide (i = 22)), V.bl (decide (i = 23))])) p3 = some (.lst [V.bl (decide (i = 0)), V.bl (decide (i = 1)), V.bl (decide (i = 2)), V.bl (decide (i = 3)), V.bl (decide (i = 4)), V.bl (decide (i = 5)), V.bl (decide (i = 6)), V.bl (decide (i = 7)), V.bl (decide (i = 8)), V.bl (decide (i = 9)), V.bl (decide (i = 10)), V.bl (decide (i = 11)), V.bl (decide (i = 12)), V.bl (decide (i = 13)), V.bl (decide (i = 14)), V.bl (decide (i = 15)), V.bl (decide (i = 16)), V.bl (decide (i = 17)), V.bl (decide (i = 18)), V.bl (decide (i = 19)), V.bl (decide (i = 20)), V.bl (decide (i = 21)), V.bl (decide (i = 22)), V.bl (decide (i = 23))]) := upd_same
    generalize upd H3 p3 (.lst ([V.bl (decide (i = 0)), V.bl (decide (i = 1)), V.bl (decide (i = 2)), V.bl (decide (i = 3)), V.bl (decide (i = 4)), V.bl (decide (i = 5)), V.bl (decide (i = 6)), V.bl (decide (i = 7)), V.bl (decide (i = 8)), V.bl (decide (i = 9)), V.bl (decide (i = 10)), V.bl (decide (i = 11)), V.bl (decide (i = 12)), V.bl (decide (i = 13)), V.bl (decide (i = 14)), V.bl (decide (i = 15)), V.bl (decide (i = 16)), V.bl (decide (i = 17))] ++ [V.bl (decide (i = 18)), V.bl (decide (i = 19)), V.bl (decide (i = 20)), V.bl (decide (i = 21)), V.bl (decide (i = 22)), V.bl (decide (i = 23))])) = G3 at *
    have E3 := E2.trans (e3.trans f3)
    have x3 := hx.ext E3
    refine ⟨_, rfl, ⟨_, rfl, a, c i, fs, _, .ref (c 24), _, rfl, .own (c 24), is, x3, k24, ⟨_, rfl, a, c i, fs, _, .ref (c 25), _, rfl, .own (c 25), is, x3, k25, ⟨_, rfl, a, c i, fs, _, .ref (c 26), _, rfl, .own (c 26), is, x3, k26, ⟨_, rfl, a, c i, fs, _, .ref (c 27), _, rfl, .own (c 27), is, x3, k27, ⟨_, rfl, a, c i, fs, _, .ref (c 28), _, rfl, .own (c 28), is, x3, k28, ⟨_, rfl, a, c i, fs, _, .ref (c 29), _, rfl, .own (c 29), is, x3, k29, ⟨by show 6 ≤ sizeLine; decide, fun l4 n4 => ?_⟩⟩⟩⟩⟩⟩⟩⟩
    have e4 : Ext G3 (upd G3 l4 (.lst [V.bl (decide (i = 24)), V.bl (decide (i = 25)), V.bl (decide (i = 26)), V.bl (decide (i = 27)), V.bl (decide (i = 28)), V.bl (decide (i = 29))])) := Ext.upd n4
    have h4 : upd G3 l4 (.lst [V.bl (decide (i = 24)), V.bl (decide (i = 25)), V.bl (decide (i = 26)), V.bl (decide (i = 27)), V.bl (decide (i = 28)), V.bl (decide (i = 29))]) l4 = some (.lst [V.bl (decide (i = 24)), V.bl (decide (i = 25)), V.bl (decide (i = 26)), V.bl (decide (i = 27)), V.bl (decide (i = 28)), V.bl (decide (i = 29))]) := upd_same
    generalize upd G3 l4 (.lst [V.bl (decide (i = 24)), V.bl (decide (i = 25)), V.bl (decide (i = 26)), V.bl (decide (i = 27)), V.bl (decide (i = 28)), V.bl (decide (i = 29))]) = H4 at *
    refine ⟨p3, l4, [V.bl (decide (i = 0)), V.bl (decide (i = 1)), V.bl (decide (i = 2)), V.bl (decide (i = 3)), V.bl (decide (i = 4)), V.bl (decide (i = 5)), V.bl (decide (i = 6)), V.bl (decide (i = 7)), V.bl (decide (i = 8)), V.bl (decide (i = 9)), V.bl (decide (i = 10)), V.bl (decide (i = 11)), V.bl (decide (i = 12)), V.bl (decide (i = 13)), V.bl (decide (i = 14)), V.bl (decide (i = 15)), V.bl (decide (i = 16)), V.bl (decide (i = 17)), V.bl (decide (i = 18)), V.bl (decide (i = 19)), V.bl (decide (i = 20)), V.bl (decide (i = 21)), V.bl (decide (i = 22)), V.bl (decide (i = 23))], [V.bl (decide (i = 24)), V.bl (decide (i = 25)), V.bl (decide (i = 26)), V.bl (decide (i = 27)), V.bl (decide (i = 28)), V.bl (decide (i = 29))], rfl, rfl, e4 _ _ g3, h4, by show 30 ≤ sizeLine; decide, fun p4 q4 => ?_⟩
    have f4 : Ext H4 (upd H4 p4 (.lst ([V.bl (decide (i = 0)), V.bl (decide (i = 1)), V.bl (decide (i = 2)), V.bl (decide (i = 3)), V.bl (decide (i = 4)), V.bl (decide (i = 5)), V.bl (decide (i = 6)), V.bl (decide (i = 7)), V.bl (decide (i = 8)), V.bl (decide (i = 9)), V.bl (decide (i = 10)), V.bl (decide (i = 11)), V.bl (decide (i = 12)), V.bl (decide (i = 13)), V.bl (decide (i = 14)), V.bl (decide (i = 15)), V.bl (decide (i = 16)), V.bl (decide (i = 17)), V.bl (decide (i = 18)), V.bl (decide (i = 19)), V.bl (decide (i = 20)), V.bl (decide (i = 21)), V.bl (decide (i = 22)), V.bl (decide (i = 23))] ++ [V.bl (decide (i = 24)), V.bl (decide (i = 25)), V.bl (decide (i = 26)), V.bl (decide (i = 27)), V.bl (decide (i = 28)), V.bl (decide (i = 29))]))) := Ext.upd q4
    have g4 : upd H4 p4 (.lst ([V.bl (decide (i = 0)), V.bl (decide (i = 1)), V.bl (decide (i = 2)), V.bl (decide (i = 3)), V.bl (decide (i = 4)), V.bl (decide (i = 5)), V.bl (decide (i = 6)), V.bl (decide (i = 7)), V.bl (decide (i = 8)), V.bl (decide (i = 9)), V.bl (decide (i = 10)), V.bl (decide (i = 11)), V.bl (decide (i = 12)), V.bl (decide (i = 13)), V.bl (decide (i = 14)), V.bl (decide (i = 15)), V.bl (decide (i = 16)), V.bl (decide (i = 17)), V.bl (decide (i = 18)), V.bl (decide (i = 19)), V.bl (decide (i = 20)), V.bl (decide (i = 21)), V.bl (decide (i = 22)), V.bl (decide (i = 23))] ++ [V.bl (decide (i = 24)), V.bl (decide (i = 25)), V.bl (decide (i = 26)), V.bl (decide (i = 27)), V.bl (decide (i = 28)), V.bl (decide (i = 29))])) p4 = some (.lst [V.bl (decide (i = 0)), V.bl (decide (i = 1)), V.bl (decide (i = 2)), V.bl (decide (i = 3)), V.bl (decide (i = 4)), V.bl (decide (i = 5)), V.bl (decide (i = 6)), V.bl (decide (i = 7)), V.bl (decide (i = 8)), V.bl (decide (i = 9)), V.bl (decide (i = 10)), V.bl (decide (i = 11)), V.bl (decide (i = 12)), V.bl (decide (i = 13)), V.bl (decide (i = 14)), V.bl (decide (i = 15)), V.bl (decide (i = 16)), V.bl (decide (i = 17)), V.bl (decide (i = 18)), V.bl (decide (i = 19)), V.bl (decide (i = 20)), V.bl (decide (i = 21)), V.bl (decide (i = 22)), V.bl (decide (i = 23)), V.bl (decide (i = 24)), V.bl (decide (i = 25)), V.bl (decide (i = 26)), V.bl (decide (i = 27)), V.bl (decide (i = 28)), V.bl (decide (i = 29))]) := upd_same
    generalize upd H4 p4 (.lst ([V.bl (decide (i = 0)), V.bl (decide (i = 1)), V.bl (decide (i = 2)), V.bl (decide (i = 3)), V.bl (decide (i = 4)), V.bl (decide (i = 5)), V.bl (decide (i = 6)), V.bl (decide (i = 7)), V.bl (decide (i = 8)), V.bl (decide (i = 9)), V.bl (decide (i = 10)), V.bl (decide (i = 11)), V.bl (decide (i = 12)), V.bl (decide (i = 13)), V.bl (decide (i = 14)), V.bl (decide (i = 15)), V.bl (decide (i = 16)), V.bl (decide (i = 17)), V.bl (decide (i = 18)), V.bl (decide (i = 19)), V.bl (decide (i = 20)), V.bl (decide (i = 21)), V.bl (decide (i = 22)), V.bl (decide (i = 23))] ++ [V.bl (decide (i = 24)), V.bl (decide (i = 25)), V.bl (decide (i = 26)), V.bl (decide (i = 27)), V.bl (decide (i = 28)), V.bl (decide (i = 29))])) = G4 at *
    have E4 := E3.trans (e4.trans f4)
    have x4 := hx.ext E4
    refine ⟨_, rfl, ⟨_, rfl, a, c i, fs, _, .ref (c 30), _, rfl, .own (c 30), is, x4, k30, ⟨_, rfl, a, c i, fs, _, .ref (c 31), _, rfl, .own (c 31), is, x4, k31, ⟨_, rfl, a, c i, fs, _, .ref (c 32), _, rfl, .own (c 32), is, x4, k32, ⟨by show 3 ≤ sizeLine; decide, fun l5 n5 => ?_⟩⟩⟩⟩⟩
    have e5 : Ext G4 (upd G4 l5 (.lst [V.bl (decide (i = 30)), V.bl (decide (i = 31)), V.bl (decide (i = 32))])) := Ext.upd n5
    have h5 : upd G4 l5 (.lst [V.bl (decide (i = 30)), V.bl (decide (i = 31)), V.bl (decide (i = 32))]) l5 = some (.lst [V.bl (decide (i = 30)), V.bl (decide (i = 31)), V.bl (decide (i = 32))]) := upd_same
    generalize upd G4 l5 (.lst [V.bl (decide (i = 30)), V.bl (decide (i = 31)), V.bl (decide (i = 32))]) = H5 at *
    refine ⟨p4, l5, [V.bl (decide (i = 0)), V.bl (decide (i = 1)), V.bl (decide (i = 2)), V.bl (decide (i = 3)), V.bl (decide (i = 4)), V.bl (decide (i = 5)), V.bl (decide (i = 6)), V.bl (decide (i = 7)), V.bl (decide (i = 8)), V.bl (decide (i = 9)), V.bl (decide (i = 10)), V.bl (decide (i = 11)), V.bl (decide (i = 12)), V.bl (decide (i = 13)), V.bl (decide (i = 14)), V.bl (decide (i = 15)), V.bl (decide (i = 16)), V.bl (decide (i = 17)), V.bl (decide (i = 18)), V.bl (decide (i = 19)), V.bl (decide (i = 20)), V.bl (decide (i = 21)), V.bl (decide (i = 22)), V.bl (decide (i = 23)), V.bl (decide (i = 24)), V.bl (decide (i = 25)), V.bl (decide (i = 26)), V.bl (decide (i = 27)), V.bl (decide (i = 28)), V.bl (decide (i = 29))], [V.bl (decide (i = 30)), V.bl (decide (i = 31)), V.bl (decide (i = 32))], rfl, rfl, e5 _ _ g4, h5, by show 33 ≤ sizeLine; decide, fun p5 q5 => ?_⟩
    have f5 : Ext H5 (upd H5 p5 (.lst ([V.bl (decide (i = 0)), V.bl (decide (i = 1)), V.bl (decide (i = 2)), V.bl (decide (i = 3)), V.bl (decide (i = 4)), V.bl (decide (i = 5)), V.bl (decide (i = 6)), V.bl (decide (i = 7)), V.bl (decide (i = 8)), V.bl (decide (i = 9)), V.bl (decide (i = 10)), V.bl (decide (i = 11)), V.bl (decide (i = 12)), V.bl (decide (i = 13)), V.bl (decide (i = 14)), V.bl (decide (i = 15)), V.bl (decide (i = 16)), V.bl (decide (i = 17)), V.bl (decide (i = 18)), V.bl (decide (i = 19)), V.bl (decide (i = 20)), V.bl (decide (i = 21)), V.bl (decide (i = 22)), V.bl (decide (i = 23)), V.bl (decide (i = 24)), V.bl (decide (i = 25)), V.bl (decide (i = 26)), V.bl (decide (i = 27)), V.bl (decide (i = 28)), V.bl (decide (i = 29))] ++ [V.bl (decide (i = 30)), V.bl (decide (i = 31)), V.bl (decide (i = 32))]))) := Ext.upd q5
    have g5 : upd H5 p5 (.lst ([V.bl (decide (i = 0)), V.bl (decide (i = 1)), V.bl (decide (i = 2)), V.bl (decide (i = 3)), V.bl (decide (i = 4)), V.bl (decide (i = 5)), V.bl (decide (i = 6)), V.bl (decide (i = 7)), V.bl (decide (i = 8)), V.bl (decide (i = 9)), V.bl (decide (i = 10)), V.bl (decide (i = 11)), V.bl (decide (i = 12)), V.bl (decide (i = 13)), V.bl (decide (i = 14)), V.bl (decide (i = 15)), V.bl (decide (i = 16)), V.bl (decide (i = 17)), V.bl (decide (i = 18)), V.bl (decide (i = 19)), V.bl (decide (i = 20)), V.bl (decide (i = 21)), V.bl (decide (i = 22)), V.bl (decide (i = 23)), V.bl (decide (i = 24)), V.bl (decide (i = 25)), V.bl (decide (i = 26)), V.bl (decide (i = 27)), V.bl (decide (i = 28)), V.bl (decide (i = 29))] ++ [V.bl (decide (i = 30)), V.bl (decide (i = 31)), V.bl (decide (i = 32))])) p5 = some (.lst [V.bl (decide (i = 0)), V.bl (decide (i = 1)), V.bl (decide (i = 2)), V.bl (decide (i = 3)), V.bl (decide (i = 4)), V.bl (decide (i = 5)), V.bl (decide (i = 6)), V.bl (decide (i = 7)), V.bl (decide (i = 8)), V.bl (decide (i = 9)), V.bl (decide (i = 10)), V.bl (decide (i = 11)), V.bl (decide (i = 12)), V.bl (decide (i = 13)), V.bl (decide (i = 14)), V.bl (decide (i = 15)), V.bl (decide (i = 16)), V.bl (decide (i = 17)), V.bl (decide (i = 18)), V.bl (decide (i = 19)), V.bl (decide (i = 20)), V.bl (decide (i = 21)), V.bl (decide (i = 22)), V.bl (decide (i = 23)), V.bl (decide (i = 24)), V.bl (decide (i = 25)), V.bl (decide (i = 26)), V.bl (decide (i = 27)), V.bl (decide (i = 28)), V.bl (decide (i = 29)), V.bl (decide (i = 30)), V.bl (decide (i = 31)), V.bl (decide (i = 32))]) := upd_same
    generalize upd H5 p5 (.lst ([V.bl (decide (i = 0)), V.bl (decide (i = 1)), V.bl (decide (i = 2)), V.bl (decide (i = 3)), V.bl (decide (i = 4)), V.bl (decide (i = 5)), V.bl (decide (i = 6)), V.bl (decide (i = 7)), V.bl (decide (i = 8)), V.bl (decide (i = 9)), V.bl (decide (i = 10)), V.bl (decide (i = 11)), V.bl (decide (i = 12)), V.bl (decide (i = 13)), V.bl (decide (i = 14)), V.bl (decide (i = 15)), V.bl (decide (i = 16)), V.bl (decide (i = 17)), V.bl (decide (i = 18)), V.bl (decide (i = 19)), V.bl (decide (i = 20)), V.bl (decide (i = 21)), V.bl (decide (i = 22)), V.bl (decide (i = 23)), V.bl (decide (i = 24)), V.bl (decide (i = 25)), V.bl (decide (i = 26)), V.bl (decide (i = 27)), V.bl (decide (i = 28)), V.bl (decide (i = 29))] ++ [V.bl (decide (i = 30)), V.bl (decide (i = 31)), V.bl (decide (i = 32))])) = G5 at *
    have E5 := E4.trans (e5.trans f5)
    have x5 := hx.ext E5
    exact ⟨_, rfl, k _ _ E5 g5⟩
end
end K9
set_option Elab.async false
set_option linter.all false
set_option maxRecDepth 100000
set_option maxHeartbeats 8000000
/-! All errors made; their fields; what they are no errors of. -/
namespace K9
open PySem L2
/-- the fields of the i-th error made of x (and y) -/
def fsOf (i : Nat) (x y : V) : List (Str × V) := if i < 7 then [(fldE i, x)] else if i = 7 then [("column", y), ("arrow", x)] else []
def AllAt (c : Nat → Addr) (x y : V) (H : Hp) (as : List Addr) : Prop := ∀ j a, as[j]? = some a → ExAt H a (c j) (fsOf j x y)
theorem AllAt.ext {c : Nat → Addr} {x y : V} {H H' : Hp} {as : List Addr} (e : Ext H H') (h : AllAt c x y H as) : AllAt c x y H' as := fun j a q => (h j a q).ext e
theorem AllAt.nil {c : Nat → Addr} {x y : V} {H : Hp} : AllAt c x y H [] := fun j a q => by simp at q
theorem AllAt.snoc {c : Nat → Addr} {x y : V} {H H' : Hp} {as : List Addr} {a : Addr} (h : AllAt c x y H as) (e : Ext H H') (n : Nat) (hn : as.length = n) (hx : ExAt H' a (c n) (fsOf n x y)) : AllAt c x y H' (as ++ [a]) := fun j b q => by
  by_cases l : j < as.length
  · rw [List.getElem?_append_left l] at q
    exact (h j b q).ext e
  · rw [List.getElem?_append_right (by omega)] at q
    have z : j - as.length = 0 := by
      have := (List.getElem?_eq_some_iff.mp q).1
      simp at this
      omega
    rw [z] at q
    cases q
    have : j = n := by omega
    subst this
    exact hx
theorem mk1 {C : Addr} {f : Str} {v : V} {H : Hp} {R : Addr → Hp → Prop} (k : ∀ a H', Ext H H' → ExAt H' a C [(f, v)] → R a H') : ∀ a, H a = none → spF1 C f (.ref a :: [v]) (upd H a (exo a C none)) (fun v H2 => v = .non ∧ R a H2) E0 := by
  intro a na
  refine ⟨a, v, rfl, upd_same, fun d nd ne => ⟨rfl, k a _ (fun b o e => ?_) (.inr ⟨d, upd_same, by rw [upd_ne ne, upd_same]⟩)⟩⟩
  have h1 := ne_of_none e na
  have h2 : b ≠ d := ne_of_none (by rw [upd_ne h1]; exact e) nd
  rw [upd_ne h1, upd_ne h2, upd_ne h1]
  exact e
theorem mk2 {C : Addr} {v u : V} {H : Hp} {R : Addr → Hp → Prop} (k : ∀ a H', Ext H H' → ExAt H' a C [("column", u), ("arrow", v)] → R a H') : ∀ a, H a = none → spF2 C (.ref a :: [v, u]) (upd H a (exo a C none)) (fun v H2 => v = .non ∧ R a H2) E0 := by
  intro a na
  refine ⟨a, v, u, rfl, upd_same, fun d H' nd ne h1 h2 h3 => ⟨rfl, k a _ (fun b o e => ?_) (.inr ⟨d, h1, h2⟩)⟩⟩
  have q1 := ne_of_none e na
  have q2 : b ≠ d := ne_of_none (by rw [upd_ne q1]; exact e) nd
  rw [h3 b q1 q2, upd_ne q1]
  exact e
theorem mk0 {C : Addr} {H : Hp} {R : Addr → Hp → Prop} (k : ∀ a H', Ext H H' → ExAt H' a C [] → R a H') : ∀ a, H a = none → spF0 (.ref a :: []) (upd H a (exo a C none)) (fun v H2 => v = .non ∧ R a H2) E0 := by
  intro a na
  exact ⟨a, rfl, rfl, k a _ (Ext.upd na) (.inl ⟨upd_same, rfl⟩)⟩
section
variable {P : Program} {w : World} {K : PySem.W.Frag} {mg : Str → Option Value} {base : Heap} {c fi : Nat → Addr}
abbrev sAll : Stmt := top 56
theorem scAll : FnScope ["thing", "other", "found"] ["thing", "other"] (defScope sAll) := ⟨rfl, rfl, rfl, by decide +kernel, rfl, by decide +kernel, by decide +kernel⟩
def spAll (c : Nat → Addr) : Sp := fun vs H Q _ => ∃ x y : V, vs = [x, y] ∧ ∀ (r : Addr) (as : List Addr) (H' : Hp), Ext H H' → H' r = some (.lst (as.map V.ref)) → as.length = 33 → AllAt c x y H' as → Q (.ref r) H'
theorem ok_all {f : Addr} {fd : FuncData} (F : L2.Fun K "_law_all" "_law_all" sAll f fd) (C : ClsE K mg c fi) (N : Inis P w K mg base c fi) : FnOk P w K mg base CX0 3 f fd ["thing", "other"] (spAll c) := by
  refine F.ok scAll (fun vs H Q E h => ?_) (fun cdv A outer s H vs Q E hr h => ?_)
  · obtain ⟨x, y, rfl, _⟩ := h
    rfl
  · obtain ⟨x, y, rfl, k⟩ := h
    have m0 : mg "BadTable" = some (.ref (c 0)) := C.mgc 0 (by decide)
    obtain ⟨fd0, G0, B0⟩ := N.g0
    have m1 : mg "BadWeb" = some (.ref (c 1)) := C.mgc 1 (by decide)
    obtain ⟨fd1, G1, B1⟩ := N.g1
    have m2 : mg "BadPicture" = some (.ref (c 2)) := C.mgc 2 (by decide)
    obtain ⟨fd2, G2, B2⟩ := N.g2
    have m3 : mg "BadTower" = some (.ref (c 3)) := C.mgc 3 (by decide)
    obtain ⟨fd3, G3, B3⟩ := N.g3
    have m4 : mg "BadText" = some (.ref (c 4)) := C.mgc 4 (by decide)
    obtain ⟨fd4, G4, B4⟩ := N.g4
    have m5 : mg "TooMany" = some (.ref (c 5)) := C.mgc 5 (by decide)
    obtain ⟨fd5, G5, B5⟩ := N.g5
    have m6 : mg "NoName" = some (.ref (c 6)) := C.mgc 6 (by decide)
    obtain ⟨fd6, G6, B6⟩ := N.g6
    have m7 : mg "BadAnswer" = some (.ref (c 7)) := C.mgc 7 (by decide)
    obtain ⟨fd7, G7, B7⟩ := N.g7
    have m8 : mg "NoColumn" = some (.ref (c 8)) := C.mgc 8 (by decide)
    obtain ⟨fd8, G8, B8⟩ := N.g C 8 (by decide) (by decide)
    have m9 : mg "NoFit" = some (.ref (c 9)) := C.mgc 9 (by decide)
    obtain ⟨fd9, G9, B9⟩ := N.g C 9 (by decide) (by decide)
    have m10 : mg "NoNumber" = some (.ref (c 10)) := C.mgc 10 (by decide)
    obtain ⟨fd10, G10, B10⟩ := N.g C 10 (by decide) (by decide)
    have m11 : mg "NoPrime" = some (.ref (c 11)) := C.mgc 11 (by decide)
    obtain ⟨fd11, G11, B11⟩ := N.g C 11 (by decide) (by decide)
    have m12 : mg "NoPolynomial" = some (.ref (c 12)) := C.mgc 12 (by decide)
    obtain ⟨fd12, G12, B12⟩ := N.g C 12 (by decide) (by decide)
    have m13 : mg "OtherWeb" = some (.ref (c 13)) := C.mgc 13 (by decide)
    obtain ⟨fd13, G13, B13⟩ := N.g C 13 (by decide) (by decide)
    have m14 : mg "NoLeading" = some (.ref (c 14)) := C.mgc 14 (by decide)
    obtain ⟨fd14, G14, B14⟩ := N.g C 14 (by decide) (by decide)
    have m15 : mg "NoPictures" = some (.ref (c 15)) := C.mgc 15 (by decide)
    obtain ⟨fd15, G15, B15⟩ := N.g C 15 (by decide) (by decide)
    have m16 : mg "NoBases" = some (.ref (c 16)) := C.mgc 16 (by decide)
    obtain ⟨fd16, G16, B16⟩ := N.g C 16 (by decide) (by decide)
    have m17 : mg "NoPieces" = some (.ref (c 17)) := C.mgc 17 (by decide)
    obtain ⟨fd17, G17, B17⟩ := N.g C 17 (by decide) (by decide)
    have m18 : mg "NoRow" = some (.ref (c 18)) := C.mgc 18 (by decide)
    obtain ⟨fd18, G18, B18⟩ := N.g C 18 (by decide) (by decide)
    have m19 : mg "Endless" = some (.ref (c 19)) := C.mgc 19 (by decide)
    obtain ⟨fd19, G19, B19⟩ := N.g C 19 (by decide) (by decide)
    have m20 : mg "Finite" = some (.ref (c 20)) := C.mgc 20 (by decide)
    obtain ⟨fd20, G20, B20⟩ := N.g C 20 (by decide) (by decide)
    have m21 : mg "NoTurn" = some (.ref (c 21)) := C.mgc 21 (by decide)
    obtain ⟨fd21, G21, B21⟩ := N.g C 21 (by decide) (by decide)
    have m22 : mg "NoWord" = some (.ref (c 22)) := C.mgc 22 (by decide)
    obtain ⟨fd22, G22, B22⟩ := N.g C 22 (by decide) (by decide)
    have m23 : mg "NoLine" = some (.ref (c 23)) := C.mgc 23 (by decide)
    obtain ⟨fd23, G23, B23⟩ := N.g C 23 (by decide) (by decide)
    have m24 : mg "NoStretch" = some (.ref (c 24)) := C.mgc 24 (by decide)
    obtain ⟨fd24, G24, B24⟩ := N.g C 24 (by decide) (by decide)
    have m25 : mg "NoReaches" = some (.ref (c 25)) := C.mgc 25 (by decide)
    obtain ⟨fd25, G25, B25⟩ := N.g C 25 (by decide) (by decide)
    have m26 : mg "NoStops" = some (.ref (c 26)) := C.mgc 26 (by decide)
    obtain ⟨fd26, G26, B26⟩ := N.g C 26 (by decide) (by decide)
    have m27 : mg "NoExchange" = some (.ref (c 27)) := C.mgc 27 (by decide)
    obtain ⟨fd27, G27, B27⟩ := N.g C 27 (by decide) (by decide)
    have m28 : mg "NoBars" = some (.ref (c 28)) := C.mgc 28 (by decide)
    obtain ⟨fd28, G28, B28⟩ := N.g C 28 (by decide) (by decide)
    have m29 : mg "NoKind" = some (.ref (c 29)) := C.mgc 29 (by decide)
    obtain ⟨fd29, G29, B29⟩ := N.g C 29 (by decide) (by decide)
    have m30 : mg "NoPencil" = some (.ref (c 30)) := C.mgc 30 (by decide)
    obtain ⟨fd30, G30, B30⟩ := N.g C 30 (by decide) (by decide)
    have m31 : mg "NoSizes" = some (.ref (c 31)) := C.mgc 31 (by decide)
    obtain ⟨fd31, G31, B31⟩ := N.g C 31 (by decide) (by decide)
    have m32 : mg "NothingDone" = some (.ref (c 32)) := C.mgc 32 (by decide)
    obtain ⟨fd32, G32, B32⟩ := N.g C 32 (by decide) (by decide)
    refine ⟨_, pss_cons (ps_set (i := 2) scAll.nd rfl (Or.inl rfl) (pe_lst (pa_cons (pe_exv (C.ex 0 (by decide)) (C.iC 0 (by decide)) (C.tI 0 (by decide)) G0 hr B0 pass0 (by rfl) m0 (pa_cons (pv 0) pa_nil)) (pa_cons (pe_exv (C.ex 1 (by decide)) (C.iC 1 (by decide)) (C.tI 1 (by decide)) G1 hr B1 pass0 (by rfl) m1 (pa_cons (pv 0) pa_nil)) (pa_cons (pe_exv (C.ex 2 (by decide)) (C.iC 2 (by decide)) (C.tI 2 (by decide)) G2 hr B2 pass0 (by rfl) m2 (pa_cons (pv 0) pa_nil)) (pa_cons (pe_exv (C.ex 3 (by decide)) (C.iC 3 (by decide)) (C.tI 3 (by decide)) G3 hr B3 pass0 (by rfl) m3 (pa_cons (pv 0) pa_nil)) (pa_cons (pe_exv (C.ex 4 (by decide)) (C.iC 4 (by decide)) (C.tI 4 (by decide)) G4 hr B4 pass0 (by rfl) m4 (pa_cons (pv 0) pa_nil)) (pa_cons (pe_exv (C.ex 5 (by decide)) (C.iC 5 (by decide)) (C.tI 5 (by decide)) G5 hr B5 pass0 (by rfl) m5 (pa_cons (pv 0) pa_nil)) (pa_cons (pe_exv (C.ex 6 (by decide)) (C.iC 6 (by decide)) (C.tI 6 (by decide)) G6 hr B6 pass0 (by rfl) m6 (pa_cons (pv 0) pa_nil)) (pa_cons (pe_exv (C.ex 7 (by decide)) (C.iC 7 (by decide)) (C.tI 7 (by decide)) G7 hr B7 pass0 (by rfl) m7 (pa_cons (pv 0) (pa_cons (pv 1) pa_nil))) (pa_cons (pe_exv0 (C.ex 8 (by decide)) (C.iC 8 (by decide)) (C.tI 8 (by decide)) G8 hr B8 pass0 (by rfl) m8) pa_nil)))))))))))
          (pss_cons (ps_set (i := 2) scAll.nd rfl (Or.inl rfl) (pe_op op_cat (pv 2) (pe_lst (pa_cons (pe_exv0 (C.ex 9 (by decide)) (C.iC 9 (by decide)) (C.tI 9 (by decide)) G9 hr B9 pass0 (by rfl) m9) (pa_cons (pe_exv0 (C.ex 10 (by decide)) (C.iC 10 (by decide)) (C.tI 10 (by decide)) G10 hr B10 pass0 (by rfl) m10) (pa_cons (pe_exv0 (C.ex 11 (by decide)) (C.iC 11 (by decide)) (C.tI 11 (by decide)) G11 hr B11 pass0 (by rfl) m11) (pa_cons (pe_exv0 (C.ex 12 (by decide)) (C.iC 12 (by decide)) (C.tI 12 (by decide)) G12 hr B12 pass0 (by rfl) m12) (pa_cons (pe_exv0 (C.ex 13 (by decide)) (C.iC 13 (by decide)) (C.tI 13 (by decide)) G13 hr B13 pass0 (by rfl) m13) (pa_cons (pe_exv0 (C.ex 14 (by decide)) (C.iC 14 (by decide)) (C.tI 14 (by decide)) G14 hr B14 pass0 (by rfl) m14) (pa_cons (pe_exv0 (C.ex 15 (by decide)) (C.iC 15 (by decide)) (C.tI 15 (by decide)) G15 hr B15 pass0 (by rfl) m15) (pa_cons (pe_exv0 (C.ex 16 (by decide)) (C.iC 16 (by decide)) (C.tI 16 (by decide)) G16 hr B16 pass0 (by rfl) m16) (pa_cons (pe_exv0 (C.ex 17 (by decide)) (C.iC 17 (by decide)) (C.tI 17 (by decide)) G17 hr B17 pass0 (by rfl) m17) pa_nil))))))))))))
          (pss_cons (ps_set (i := 2) scAll.nd rfl (Or.inl rfl) (pe_op op_cat (pv 2) (pe_lst (pa_cons (pe_exv0 (C.ex 18 (by decide)) (C.iC 18 (by decide)) (C.tI 18 (by decide)) G18 hr B18 pass0 (by rfl) m18) (pa_cons (pe_exv0 (C.ex 19 (by decide)) (C.iC 19 (by decide)) (C.tI 19 (by decide)) G19 hr B19 pass0 (by rfl) m19) (pa_cons (pe_exv0 (C.ex 20 (by decide)) (C.iC 20 (by decide)) (C.tI 20 (by decide)) G20 hr B20 pass0 (by rfl) m20) (pa_cons (pe_exv0 (C.ex 21 (by decide)) (C.iC 21 (by decide)) (C.tI 21 (by decide)) G21 hr B21 pass0 (by rfl) m21) (pa_cons (pe_exv0 (C.ex 22 (by decide)) (C.iC 22 (by decide)) (C.tI 22 (by decide)) G22 hr B22 pass0 (by rfl) m22) (pa_cons (pe_exv0 (C.ex 23 (by decide)) (C.iC 23 (by decide)) (C.tI 23 (by decide)) G23 hr B23 pass0 (by rfl) m23) (pa_cons (pe_exv0 (C.ex 24 (by decide)) (C.iC 24 (by decide)) (C.tI 24 (by decide)) G24 hr B24 pass0 (by rfl) m24) (pa_cons (pe_exv0 (C.ex 25 (by decide)) (C.iC 25 (by decide)) (C.tI 25 (by decide)) G25 hr B25 pass0 (by rfl) m25) (pa_cons (pe_exv0 (C.ex 26 (by decide)) (C.iC 26 (by decide)) (C.tI 26 (by decide)) G26 hr B26 pass0 (by rfl) m26) pa_nil))))))))))))
          (pss_cons (ps_set (i := 2) scAll.nd rfl (Or.inl rfl) (pe_op op_cat (pv 2) (pe_lst (pa_cons (pe_exv0 (C.ex 27 (by decide)) (C.iC 27 (by decide)) (C.tI 27 (by decide)) G27 hr B27 pass0 (by rfl) m27) (pa_cons (pe_exv0 (C.ex 28 (by decide)) (C.iC 28 (by decide)) (C.tI 28 (by decide)) G28 hr B28 pass0 (by rfl) m28) (pa_cons (pe_exv0 (C.ex 29 (by decide)) (C.iC 29 (by decide)) (C.tI 29 (by decide)) G29 hr B29 pass0 (by rfl) m29) (pa_cons (pe_exv0 (C.ex 30 (by decide)) (C.iC 30 (by decide)) (C.tI 30 (by decide)) G30 hr B30 pass0 (by rfl) m30) (pa_cons (pe_exv0 (C.ex 31 (by decide)) (C.iC 31 (by decide)) (C.tI 31 (by decide)) G31 hr B31 pass0 (by rfl) m31) (pa_cons (pe_exv0 (C.ex 32 (by decide)) (C.iC 32 (by decide)) (C.tI 32 (by decide)) G32 hr B32 pass0 (by rfl) m32) pa_nil)))))))))
          (pss_one (ps_ret (pv 2)))))), ?_⟩
    refine ⟨_, rfl, by show 1 ≤ 1000; decide, mk1 fun a0 H0 e0 x0 => ?_⟩
    have P0 : AllAt c x y H0 [a0] := ((AllAt.nil (c := c) (x := x) (y := y) (H := H))).snoc e0 0 rfl x0
    have E0 : Ext H H0 := e0
    refine ⟨_, rfl, by show 1 ≤ 1000; decide, mk1 fun a1 H1 e1 x1 => ?_⟩
    have P1 : AllAt c x y H1 [a0, a1] := (P0).snoc e1 1 rfl x1
    have E1 : Ext H H1 := (E0.trans e1)
    refine ⟨_, rfl, by show 1 ≤ 1000; decide, mk1 fun a2 H2 e2 x2 => ?_⟩
    have P2 : AllAt c x y H2 [a0, a1, a2] := (P1).snoc e2 2 rfl x2
    have E2 : Ext H H2 := (E1.trans e2)
    refine ⟨_, rfl, by show 1 ≤ 1000; decide, mk1 fun a3 H3 e3 x3 => ?_⟩
    have P3 : AllAt c x y H3 [a0, a1, a2, a3] := (P2).snoc e3 3 rfl x3
    have E3 : Ext H H3 := (E2.trans e3)
    refine ⟨_, rfl, by show 1 ≤ 1000; decide, mk1 fun a4 H4 e4 x4 => ?_⟩
    have P4 : AllAt c x y H4 [a0, a1, a2, a3, a4] := (P3).snoc e4 4 rfl x4
    have E4 : Ext H H4 := (E3.trans e4)
    refine ⟨_, rfl, by show 1 ≤ 1000; decide, mk1 fun a5 H5 e5 x5 => ?_⟩
    have P5 : AllAt c x y H5 [a0, a1, a2, a3, a4, a5] := (P4).snoc e5 5 rfl x5
    have E5 : Ext H H5 := (E4.trans e5)
    refine ⟨_, rfl, by show 1 ≤ 1000; decide, mk1 fun a6 H6 e6 x6 => ?_⟩
    have P6 : AllAt c x y H6 [a0, a1, a2, a3, a4, a5, a6] := (P5).snoc e6 6 rfl x6
    have E6 : Ext H H6 := (E5.trans e6)
    refine ⟨_, rfl, _, rfl, by show 2 ≤ 1000; decide, mk2 fun a7 H7 e7 x7 => ?_⟩
    have P7 : AllAt c x y H7 [a0, a1, a2, a3, a4, a5, a6, a7] := (P6).snoc e7 7 rfl x7
    have E7 : Ext H H7 := (E6.trans e7)
    refine ⟨by show 0 ≤ 1000; decide, mk0 fun a8 H8 e8 x8 => ?_⟩
    have P8 : AllAt c x y H8 [a0, a1, a2, a3, a4, a5, a6, a7, a8] := (P7).snoc e8 8 rfl x8
    have E8 : Ext H H8 := (E7.trans e8)
    refine ⟨by show 9 ≤ sizeLine; decide, fun l0 n0 => ?_⟩
    have d0 : Ext H8 (upd H8 l0 (.lst [V.ref a0, V.ref a1, V.ref a2, V.ref a3, V.ref a4, V.ref a5, V.ref a6, V.ref a7, V.ref a8])) := Ext.upd n0
    have h0 : upd H8 l0 (.lst [V.ref a0, V.ref a1, V.ref a2, V.ref a3, V.ref a4, V.ref a5, V.ref a6, V.ref a7, V.ref a8]) l0 = some (.lst [V.ref a0, V.ref a1, V.ref a2, V.ref a3, V.ref a4, V.ref a5, V.ref a6, V.ref a7, V.ref a8]) := upd_same
    generalize upd H8 l0 (.lst [V.ref a0, V.ref a1, V.ref a2, V.ref a3, V.ref a4, V.ref a5, V.ref a6, V.ref a7, V.ref a8]) = L0 at *
    have PL0 := P8.ext d0
    have EL0 : Ext H L0 := E8.trans d0
    refine ⟨_, rfl, by show 0 ≤ 1000; decide, mk0 fun a9 H9 e9 x9 => ?_⟩
    have P9 : AllAt c x y H9 [a0, a1, a2, a3, a4, a5, a6, a7, a8, a9] := (PL0).snoc e9 9 rfl x9
    have E9 : Ext H H9 := (EL0.trans e9)
    refine ⟨by show 0 ≤ 1000; decide, mk0 fun a10 H10 e10 x10 => ?_⟩
    have P10 : AllAt c x y H10 [a0, a1, a2, a3, a4, a5, a6, a7, a8, a9, a10] := (P9).snoc e10 10 rfl x10
    have E10 : Ext H H10 := (E9.trans e10)
    refine ⟨by show 0 ≤ 1000; decide, mk0 fun a11 H11 e11 x11 => ?_⟩
    have P11 : AllAt c x y H11 [a0, a1, a2, a3, a4, a5, a6, a7, a8, a9, a10, a11] := (P10).snoc e11 11 rfl x11
    have E11 : Ext H H11 := (E10.trans e11)
    refine ⟨by show 0 ≤ 1000; decide, mk0 fun a12 H12 e12 x12 => ?_⟩
    have P12 : AllAt c x y H12 [a0, a1, a2, a3, a4, a5, a6, a7, a8, a9, a10, a11, a12] := (P11).snoc e12 12 rfl x12
    have E12 : Ext H H12 := (E11.trans e12)
    refine ⟨by show 0 ≤ 1000; decide, mk0 fun a13 H13 e13 x13 => ?_⟩
    have P13 : AllAt c x y H13 [a0, a1, a2, a3, a4, a5, a6, a7, a8, a9, a10, a11, a12, a13] := (P12).snoc e13 13 rfl x13
    have E13 : Ext H H13 := (E12.trans e13)
    refine ⟨by show 0 ≤ 1000; decide, mk0 fun a14 H14 e14 x14 => ?_⟩
    have P14 : AllAt c x y H14 [a0, a1, a2, a3, a4, a5, a6, a7, a8, a9, a10, a11, a12, a13, a14] := (P13).snoc e14 14 rfl x14
    have E14 : Ext H H14 := (E13.trans e14)
    refine ⟨by show 0 ≤ 1000; decide, mk0 fun a15 H15 e15 x15 => ?_⟩
    have P15 : AllAt c x y H15 [a0, a1, a2, a3, a4, a5, a6, a7, a8, a9, a10, a11, a12, a13, a14, a15] := (P14).snoc e15 15 rfl x15
    have E15 : Ext H H15 := (E14.trans e15)
    refine ⟨by show 0 ≤ 1000; decide, mk0 fun a16 H16 e16 x16 => ?_⟩
    have P16 : AllAt c x y H16 [a0, a1, a2, a3, a4, a5, a6, a7, a8, a9, a10, a11, a12, a13, a14, a15, a16] := (P15).snoc e16 16 rfl x16
    have E16 : Ext H H16 := (E15.trans e16)
    refine ⟨by show 0 ≤ 1000; decide, mk0 fun a17 H17 e17 x17 => ?_⟩
    have P17 : AllAt c x y H17 [a0, a1, a2, a3, a4, a5, a6, a7, a8, a9, a10, a11, a12, a13, a14, a15, a16, a17] := (P16).snoc e17 17 rfl x17
    have E17 : Ext H H17 := (E16.trans e17)
    have oldl : H17 l0 = some (.lst [V.ref a0, V.ref a1, V.ref a2, V.ref a3, V.ref a4, V.ref a5, V.ref a6, V.ref a7, V.ref a8]) := (e9.trans (e10.trans (e11.trans (e12.trans (e13.trans (e14.trans (e15.trans (e16.trans (e17))))))))) _ _ h0
    refine ⟨by show 9 ≤ sizeLine; decide, fun l1 n1 => ?_⟩
    have d1 : Ext H17 (upd H17 l1 (.lst [V.ref a9, V.ref a10, V.ref a11, V.ref a12, V.ref a13, V.ref a14, V.ref a15, V.ref a16, V.ref a17])) := Ext.upd n1
    have h1 : upd H17 l1 (.lst [V.ref a9, V.ref a10, V.ref a11, V.ref a12, V.ref a13, V.ref a14, V.ref a15, V.ref a16, V.ref a17]) l1 = some (.lst [V.ref a9, V.ref a10, V.ref a11, V.ref a12, V.ref a13, V.ref a14, V.ref a15, V.ref a16, V.ref a17]) := upd_same
    generalize upd H17 l1 (.lst [V.ref a9, V.ref a10, V.ref a11, V.ref a12, V.ref a13, V.ref a14, V.ref a15, V.ref a16, V.ref a17]) = L1 at *
    have PL1 := P17.ext d1
    have EL1 : Ext H L1 := E17.trans d1
    refine ⟨l0, l1, [V.ref a0, V.ref a1, V.ref a2, V.ref a3, V.ref a4, V.ref a5, V.ref a6, V.ref a7, V.ref a8], [V.ref a9, V.ref a10, V.ref a11, V.ref a12, V.ref a13, V.ref a14, V.ref a15, V.ref a16, V.ref a17], rfl, rfl, d1 _ _ oldl, h1, by show 18 ≤ sizeLine; decide, fun p1 q1 => ?_⟩
    have f1 : Ext L1 (upd L1 p1 (.lst ([V.ref a0, V.ref a1, V.ref a2, V.ref a3, V.ref a4, V.ref a5, V.ref a6, V.ref a7, V.ref a8] ++ [V.ref a9, V.ref a10, V.ref a11, V.ref a12, V.ref a13, V.ref a14, V.ref a15, V.ref a16, V.ref a17]))) := Ext.upd q1
    have g1 : upd L1 p1 (.lst ([V.ref a0, V.ref a1, V.ref a2, V.ref a3, V.ref a4, V.ref a5, V.ref a6, V.ref a7, V.ref a8] ++ [V.ref a9, V.ref a10, V.ref a11, V.ref a12, V.ref a13, V.ref a14, V.ref a15, V.ref a16, V.ref a17])) p1 = some (.lst [V.ref a0, V.ref a1, V.ref a2, V.ref a3, V.ref a4, V.ref a5, V.ref a6, V.ref a7, V.ref a8, V.ref a9, V.ref a10, V.ref a11, V.ref a12, V.ref a13, V.ref a14, V.ref a15, V.ref a16, V.ref a17]) := upd_same
    generalize upd L1 p1 (.lst ([V.ref a0, V.ref a1, V.ref a2, V.ref a3, V.ref a4, V.ref a5, V.ref a6, V.ref a7, V.ref a8] ++ [V.ref a9, V.ref a10, V.ref a11, V.ref a12, V.ref a13, V.ref a14, V.ref a15, V.ref a16, V.ref a17])) = M1 at *
    have PM1 := PL1.ext f1
    have EM1 : Ext H M1 := EL1.trans f1
    clear oldl
    refine ⟨_, rfl, by show 0 ≤ 1000; decide, mk0 fun a18 H18 e18 x18 => ?_⟩
    have P18 : AllAt c x y H18 [a0, a1, a2, a3, a4, a5, a6, a7, a8, a9, a10, a11, a12, a13, a14, a15, a16, a17, a18] := (PM1).snoc e18 18 rfl x18
    have E18 : Ext H H18 := (EM1.trans e18)
    refine ⟨by show 0 ≤ 1000; decide, mk0 fun a19 H19 e19 x19 => ?_⟩
    have P19 : AllAt c x y H19 [a0, a1, a2, a3, a4, a5, a6, a7, a8, a9, a10, a11, a12, a13, a14, a15, a16, a17, a18, a19] := (P18).snoc e19 19 rfl x19
    have E19 : Ext H H19 := (E18.trans e19)
    refine ⟨by show 0 ≤ 1000; decide, mk0 fun a20 H20 e20 x20 => ?_⟩
    have P20 : AllAt c x y H20 [a0, a1, a2, a3, a4, a5, a6, a7, a8, a9, a10, a11, a12, a13, a14, a15, a16, a17, a18, a19, a20] := (P19).snoc e20 20 rfl x20
    have E20 : Ext H H20 := (E19.trans e20)
    refine ⟨by show 0 ≤ 1000; decide, mk0 fun a21 H21 e21 x21 => ?_⟩
    have P21 : AllAt c x y H21 [a0, a1, a2, a3, a4, a5, a6, a7, a8, a9, a10, a11, a12, a13, a14, a15, a16, a17, a18, a19, a20, a21] := (P20).snoc e21 21 rfl x21
    have E21 : Ext H H21 := (E20.trans e21)
    refine ⟨by show 0 ≤ 1000; decide, mk0 fun a22 H22 e22 x22 => ?_⟩
    have P22 : AllAt c x y H22 [a0, a1, a2, a3, a4, a5, a6, a7, a8, a9, a10, a11, a12, a13, a14, a15, a16, a17, a18, a19, a20, a21, a22] := (P21).snoc e22 22 rfl x22
    have E22 : Ext H H22 := (E21.trans e22)
    refine ⟨by show 0 ≤ 1000; decide, mk0 fun a23 H23 e23 x23 => ?_⟩
    have P23 : AllAt c x y H23 [a0, a1, a2, a3, a4, a5, a6, a7, a8, a9, a10, a11, a12, a13, a14, a15, a16, a17, a18, a19, a20, a21, a22, a23] := (P22).snoc e23 23 rfl x23
    have E23 : Ext H H23 := (E22.trans e23)
    refine ⟨by show 0 ≤ 1000; decide, mk0 fun a24 H24 e24 x24 => ?_⟩
    have P24 : AllAt c x y H24 [a0, a1, a2, a3, a4, a5, a6, a7, a8, a9, a10, a11, a12, a13, a14, a15, a16, a17, a18, a19, a20, a21, a22, a23, a24] := (P23).snoc e24 24 rfl x24
    have E24 : Ext H H24 := (E23.trans e24)
    refine ⟨by show 0 ≤ 1000; decide, mk0 fun a25 H25 e25 x25 => ?_⟩
    have P25 : AllAt c x y H25 [a0, a1, a2, a3, a4, a5, a6, a7, a8, a9, a10, a11, a12, a13, a14, a15, a16, a17, a18, a19, a20, a21, a22, a23, a24, a25] := (P24).snoc e25 25 rfl x25
    have E25 : Ext H H25 := (E24.trans e25)
    refine ⟨by show 0 ≤ 1000; decide, mk0 fun a26 H26 e26 x26 => ?_⟩
    have P26 : AllAt c x y H26 [a0, a1, a2, a3, a4, a5, a6, a7, a8, a9, a10, a11, a12, a13, a14, a15, a16, a17, a18, a19, a20, a21, a22, a23, a24, a25, a26] := (P25).snoc e26 26 rfl x26
    have E26 : Ext H H26 := (E25.trans e26)
    have oldl : H26 p1 = some (.lst [V.ref a0, V.ref a1, V.ref a2, V.ref a3, V.ref a4, V.ref a5, V.ref a6, V.ref a7, V.ref a8, V.ref a9, V.ref a10, V.ref a11, V.ref a12, V.ref a13, V.ref a14, V.ref a15, V.ref a16, V.ref a17]) := (e18.trans (e19.trans (e20.trans (e21.trans (e22.trans (e23.trans (e24.trans (e25.trans (e26))))))))) _ _ g1
    refine ⟨by show 9 ≤ sizeLine; decide, fun l2 n2 => ?_⟩
    have d2 : Ext H26 (upd H26 l2 (.lst [V.ref a18, V.ref a19, V.ref a20, V.ref a21, V.ref a22, V.ref a23, V.ref a24, V.ref a25, V.ref a26])) := Ext.upd n2
    have h2 : upd H26 l2 (.lst [V.ref a18, V.ref a19, V.ref a20, V.ref a21, V.ref a22, V.ref a23, V.ref a24, V.ref a25, V.ref a26]) l2 = some (.lst [V.ref a18, V.ref a19, V.ref a20, V.ref a21, V.ref a22, V.ref a23, V.ref a24, V.ref a25, V.ref a26]) := upd_same
    generalize upd H26 l2 (.lst [V.ref a18, V.ref a19, V.ref a20, V.ref a21, V.ref a22, V.ref a23, V.ref a24, V.ref a25, V.ref a26]) = L2 at *
    have PL2 := P26.ext d2
    have EL2 : Ext H L2 := E26.trans d2
    refine ⟨p1, l2, [V.ref a0, V.ref a1, V.ref a2, V.ref a3, V.ref a4, V.ref a5, V.ref a6, V.ref a7, V.ref a8, V.ref a9, V.ref a10, V.ref a11, V.ref a12, V.ref a13, V.ref a14, V.ref a15, V.ref a16, V.ref a17], [V.ref a18, V.ref a19, V.ref a20, V.ref a21, V.ref a22, V.ref a23, V.ref a24, V.ref a25, V.ref a26], rfl, rfl, d2 _ _ oldl, h2, by show 27 ≤ sizeLine; decide, fun p2 q2 => ?_⟩
    have f2 : Ext L2 (upd L2 p2 (.lst ([V.ref a0, V.ref a1, V.ref a2, V.ref a3, V.ref a4, V.ref a5, V.ref a6, V.ref a7, V.ref a8, V.ref a9, V.ref a10, V.ref a11, V.ref a12, V.ref a13, V.ref a14, V.ref a15, V.ref a16, V.ref a17] ++ [V.ref a18, V.ref a19, V.ref a20, V.ref a21, V.ref a22, V.ref a23, V.ref a24, V.ref a25, V.ref a26]))) := Ext.upd q2
    have g2 : upd L2 p2 (.lst ([V.ref a0, V.ref a1, V.ref a2, V.ref a3, V.ref a4, V.ref a5, V.ref a6, V.ref a7, V.ref a8, V.ref a9, V.ref a10, V.ref a11, V.ref a12, V.ref a13, V.ref a14, V.ref a15, V.ref a16, V.ref a17] ++ [V.ref a18, V.ref a19, V.ref a20, V.ref a21, V.ref a22, V.ref a23, V.ref a24, V.ref a25, V.ref a26])) p2 = some (.lst [V.ref a0, V.ref a1, V.ref a2, V.ref a3, V.ref a4, V.ref a5, V.ref a6, V.ref a7, V.ref a8, V.ref a9, V.ref a10, V.ref a11, V.ref a12, V.ref a13, V.ref a14, V.ref a15, V.ref a16, V.ref a17, V.ref a18, V.ref a19, V.ref a20, V.ref a21, V.ref a22, V.ref a23, V.ref a24, V.ref a25, V.ref a26]) := upd_same
    generalize upd L2 p2 (.lst ([V.ref a0, V.ref a1, V.ref a2, V.ref a3, V.ref a4, V.ref a5, V.ref a6, V.ref a7, V.ref a8, V.ref a9, V.ref a10, V.ref a11, V.ref a12, V.ref a13, V.ref a14, V.ref a15, V.ref a16, V.ref a17] ++ [V.ref a18, V.ref a19, V.ref a20, V.ref a21, V.ref a22, V.ref a23, V.ref a24, V.ref a25, V.ref a26])) = M2 at *
    have PM2 := PL2.ext f2
    have EM2 : Ext H M2 := EL2.trans f2
    clear oldl
    refine ⟨_, rfl, by show 0 ≤ 1000; decide, mk0 fun a27 H27 e27 x27 => ?_⟩
    have P27 : AllAt c x y H27 [a0, a1, a2, a3, a4, a5, a6, a7, a8, a9, a10, a11, a12, a13, a14, a15, a16, a17, a18, a19, a20, a21, a22, a23, a24, a25, a26, a27] := (PM2).snoc e27 27 rfl x27
    have E27 : Ext H H27 := (EM2.trans e27)
    refine ⟨by show 0 ≤ 1000; decide, mk0 fun a28 H28 e28 x28 => ?_⟩
    have P28 : AllAt c x y H28 [a0, a1, a2, a3, a4, a5, a6, a7, a8, a9, a10, a11, a12, a13, a14, a15, a16, a17, a18, a19, a20, a21, a22, a23, a24, a25, a26, a27, a28] := (P27).snoc e28 28 rfl x28
    have E28 : Ext H H28 := (E27.trans e28)
    refine ⟨by show 0 ≤ 1000; decide, mk0 fun a29 H29 e29 x29 => ?_⟩
    have P29 : AllAt c x y H29 [a0, a1, a2, a3, a4, a5, a6, a7, a8, a9, a10, a11, a12, a13, a14, a15, a16, a17, a18, a19, a20, a21, a22, a23, a24, a25, a26, a27, a28, a29] := (P28).snoc e29 29 rfl x29
    have E29 : Ext H H29 := (E28.trans e29)
    refine ⟨by show 0 ≤ 1000; decide, mk0 fun a30 H30 e30 x30 => ?_⟩
    have P30 : AllAt c x y H30 [a0, a1, a2, a3, a4, a5, a6, a7, a8, a9, a10, a11, a12, a13, a14, a15, a16, a17, a18, a19, a20, a21, a22, a23, a24, a25, a26, a27, a28, a29, a30] := (P29).snoc e30 30 rfl x30
    have E30 : Ext H H30 := (E29.trans e30)
    refine ⟨by show 0 ≤ 1000; decide, mk0 fun a31 H31 e31 x31 => ?_⟩
    have P31 : AllAt c x y H31 [a0, a1, a2, a3, a4, a5, a6, a7, a8, a9, a10, a11, a12, a13, a14, a15, a16, a17, a18, a19, a20, a21, a22, a23, a24, a25, a26, a27, a28, a29, a30, a31] := (P30).snoc e31 31 rfl x31
    have E31 : Ext H H31 := (E30.trans e31)
    refine ⟨by show 0 ≤ 1000; decide, mk0 fun a32 H32 e32 x32 => ?_⟩
    have P32 : AllAt c x y H32 [a0, a1, a2, a3, a4, a5, a6, a7, a8, a9, a10, a11, a12, a13, a14, a15, a16, a17, a18, a19, a20, a21, a22, a23, a24, a25, a26, a27, a28, a29, a30, a31, a32] := (P31).snoc e32 32 rfl x32
    have E32 : Ext H H32 := (E31.trans e32)
    have oldl : H32 p2 = some (.lst [V.ref a0, V.ref a1, V.ref a2, V.ref a3, V.ref a4, V.ref a5, V.ref a6, V.ref a7, V.ref a8, V.ref a9, V.ref a10, V.ref a11, V.ref a12, V.ref a13, V.ref a14, V.ref a15, V.ref a16, V.ref a17, V.ref a18, V.ref a19, V.ref a20, V.ref a21, V.ref a22, V.ref a23, V.ref a24, V.ref a25, V.ref a26]) := (e27.trans (e28.trans (e29.trans (e30.trans (e31.trans (e32)))))) _ _ g2
    refine ⟨by show 6 ≤ sizeLine; decide, fun l3 n3 => ?_⟩
    have d3 : Ext H32 (upd H32 l3 (.lst [V.ref a27, V.ref a28, V.ref a29, V.ref a30, V.ref a31, V.ref a32])) := Ext.upd n3
    have h3 : upd H32 l3 (.lst [V.ref a27, V.ref a28, V.ref a29, V.ref a30, V.ref a31, V.ref a32]) l3 = some (.lst [V.ref a27, V.ref a28, V.ref a29, V.ref a30, V.ref a31, V.ref a32]) := upd_same
    generalize upd H32 l3 (.lst [V.ref a27, V.ref a28, V.ref a29, V.ref a30, V.ref a31, V.ref a32]) = L3 at *
    have PL3 := P32.ext d3
    have EL3 : Ext H L3 := E32.trans d3
    refine ⟨p2, l3, [V.ref a0, V.ref a1, V.ref a2, V.ref a3, V.ref a4, V.ref a5, V.ref a6, V.ref a7, V.ref a8, V.ref a9, V.ref a10, V.ref a11, V.ref a12, V.ref a13, V.ref a14, V.ref a15, V.ref a16, V.ref a17, V.ref a18, V.ref a19, V.ref a20, V.ref a21, V.ref a22, V.ref a23, V.ref a24, V.ref a25, V.ref a26], [V.ref a27, V.ref a28, V.ref a29, V.ref a30, V.ref a31, V.ref a32], rfl, rfl, d3 _ _ oldl, h3, by show 33 ≤ sizeLine; decide, fun p3 q3 => ?_⟩
    have f3 : Ext L3 (upd L3 p3 (.lst ([V.ref a0, V.ref a1, V.ref a2, V.ref a3, V.ref a4, V.ref a5, V.ref a6, V.ref a7, V.ref a8, V.ref a9, V.ref a10, V.ref a11, V.ref a12, V.ref a13, V.ref a14, V.ref a15, V.ref a16, V.ref a17, V.ref a18, V.ref a19, V.ref a20, V.ref a21, V.ref a22, V.ref a23, V.ref a24, V.ref a25, V.ref a26] ++ [V.ref a27, V.ref a28, V.ref a29, V.ref a30, V.ref a31, V.ref a32]))) := Ext.upd q3
    have g3 : upd L3 p3 (.lst ([V.ref a0, V.ref a1, V.ref a2, V.ref a3, V.ref a4, V.ref a5, V.ref a6, V.ref a7, V.ref a8, V.ref a9, V.ref a10, V.ref a11, V.ref a12, V.ref a13, V.ref a14, V.ref a15, V.ref a16, V.ref a17, V.ref a18, V.ref a19, V.ref a20, V.ref a21, V.ref a22, V.ref a23, V.ref a24, V.ref a25, V.ref a26] ++ [V.ref a27, V.ref a28, V.ref a29, V.ref a30, V.ref a31, V.ref a32])) p3 = some (.lst [V.ref a0, V.ref a1, V.ref a2, V.ref a3, V.ref a4, V.ref a5, V.ref a6, V.ref a7, V.ref a8, V.ref a9, V.ref a10, V.ref a11, V.ref a12, V.ref a13, V.ref a14, V.ref a15, V.ref a16, V.ref a17, V.ref a18, V.ref a19, V.ref a20, V.ref a21, V.ref a22, V.ref a23, V.ref a24, V.ref a25, V.ref a26, V.ref a27, V.ref a28, V.ref a29, V.ref a30, V.ref a31, V.ref a32]) := upd_same
    generalize upd L3 p3 (.lst ([V.ref a0, V.ref a1, V.ref a2, V.ref a3, V.ref a4, V.ref a5, V.ref a6, V.ref a7, V.ref a8, V.ref a9, V.ref a10, V.ref a11, V.ref a12, V.ref a13, V.ref a14, V.ref a15, V.ref a16, V.ref a17, V.ref a18, V.ref a19, V.ref a20, V.ref a21, V.ref a22, V.ref a23, V.ref a24, V.ref a25, V.ref a26] ++ [V.ref a27, V.ref a28, V.ref a29, V.ref a30, V.ref a31, V.ref a32])) = M3 at *
    have PM3 := PL3.ext f3
    have EM3 : Ext H M3 := EL3.trans f3
    clear oldl
    exact ⟨_, rfl, k _ [a0, a1, a2, a3, a4, a5, a6, a7, a8, a9, a10, a11, a12, a13, a14, a15, a16, a17, a18, a19, a20, a21, a22, a23, a24, a25, a26, a27, a28, a29, a30, a31, a32] _ EM3 g3 rfl PM3⟩
end
end K9
set_option Elab.async false
set_option linter.all false
set_option maxRecDepth 100000
set_option maxHeartbeats 8000000
/-! A try with several named clauses; raising a held exception. -/
namespace K9
open PySem L2
section
open PySem.Spec PyProof.Rows
abbrev Clause := Value × (Addr → Value → Option Addr → TS)
/-- the ends of a suite whose name stands in slot i: the slot is empty behind it -/
def offSlot (i : Nat) (D : Ends) : Ends := { nx := fun τ J => D.nx (τ.set i none) J, rt := D.rt, bk := fun τ J => D.bk (τ.set i none) J, ct := fun τ J => D.ct (τ.set i none) J }
/-- what clauses 'except .. as name' wish of an exception, from the first on -/
def wEach (K : PySem.W.Frag) (i : Nat) (D : Ends) : List Clause → WX
  | [] => fun _ _ _ _ => False
  | q :: r => fun cls d τ J => ∃ b, PySem.W.exmOne K cls q.1 = some b ∧ if b = true then ∀ a, J a = none → q.2 a cls d (offSlot i D) (τ.set i (some (.ref a))) J else wEach K i D r cls d τ J
inductive EachOk (X : Cx) (n : Str) : List ExceptHandler → List Clause → Prop
  | nil : EachOk X n [] []
  | cons {x : Str} {k : Value} {ts : Addr → Value → Option Addr → TS} {st : Stmt} {rest : List Stmt} {p p' : Pos} {hs : List ExceptHandler} {qs : List Clause} (names : Names X x k)
      (suite : ∀ (a : Addr) (oe : Obj) (cls : Value) (d : Option Addr) (pn : List (Addr × Obj)), Zc cls d oe → (∃ vs, oe.data = .fields vs) → PSs (X.suite a ((a, oe) :: pn)) (st :: rest) (ts a cls d)) (more : EachOk X n hs qs) :
      EachOk X n (.ExceptHandler (some (.Name x p)) (some n) (st :: rest) p' :: hs) ((k, ts) :: qs)
variable {X : Cx} {body : List Stmt} {hs : List ExceptHandler} {h0 : ExceptHandler} {qs : List Clause} {n : Str} {i : Nat} {pos : Pos} {tb : WX → TS}
theorem ps_try_each (stk : X.stack = X.env :: X.outer) (frm : X.env.frame = some X.env.locals) (nd : X.N.Nodup) (hi : X.N[i]? = some n) (loc : X.env.kindOf n = some .local)
    (hb : ∀ (W : WX) (pn : List (Addr × Obj)) (xe : Value → Shared → Prop), Takes (X.tr pn xe) W → PassesOwn (model X.prog X.w) X.A X.env xe → PSs (X.tr pn xe) body (tb W)) (hk : EachOk X n (h0 :: hs) qs) :
    PS X (.Try body (h0 :: hs) [] [] pos) (fun D τ J => tb (wEach X.K i D qs) D τ J) := by
  constructor
  intro pins s τ H D I want
  have ok := I.ok
  have top : X.A.frames = some (X.env :: X.outer) := by rw [ok.frames, stk]
  refine wpAny_Try_except (wpAny_mono ((hb (wEach X.K i D qs) (X.pn ++ pins) _ (fun u s' caught => ?_) PassesOwn.looking).run [] s τ H D (I.toTry _) want) ?_ fun _ _ z => z)
  · obtain ⟨a, B, sI, pins', τ', H', cls, d, rfl, J0, nb, up, sky, na, os, bare, wish⟩ := caught
    have J := J0.ofTry ok
    rw [stk] at sky
    show wpAny _ _ (noteFrame (.ref a) X.env) _ _ _
    refine Sky.land Zc.steady top frm sky fun h3 fl3 up3 => ?_
    have J3 : Inv X pins τ' H' { s' with heap := h3 } := J.landed nb fl3.1 (up.trans up3) os bare
    obtain ⟨oe3, vs3, at3, z3, f3⟩ := fl3.there
    have off : a ∉ frs (X.env :: X.outer) := fun hm => by
      obtain ⟨_, o', q', nf⟩ := fl3.2.2.1.mem hm
      rw [at3] at q'
      cases q'
      exact nf _ f3
    have aL : a ≠ X.env.locals := fun q => off (List.mem_filterMap.mpr ⟨X.env, List.mem_cons_self, by rw [frm, q]⟩)
    have aF : a ∉ X.fs := fun hm => by
      obtain ⟨e, he, q⟩ := List.mem_filterMap.mp hm
      exact off (List.mem_filterMap.mpr ⟨e, List.mem_cons_of_mem _ he, q⟩)
    have S3 := J3.suite at3 f3 na aL aF
    suffices each : ∀ {ks : List ExceptHandler} {ls : List Clause}, EachOk X n ks ls → wEach X.K i D ls cls d τ' H' → wpAny (model X.prog X.w) X.A (handleBy (.ref a) X.env ks) (SP X pins D) X.xe { s' with heap := h3 } from each hk wish
    intro ks ls hk
    induction hk with
    | nil => exact fun z => z.elim
    | @cons x kk ts st rest p p' ks2 ls2 names suite more ih =>
      rintro ⟨b, isOne, next⟩
      have ty : PySem.W.Looks (model X.prog X.w) h3 (typeOf (.ref a)) cls := fun A Q E s k q => wpAny_typeOf_ref (k _ _ at3) (by rw [z3.1]; exact q)
      have exm := PySem.W.exm_one (M := model X.prog X.w) J3.kIn ty isOne
      have reads : ∀ {Q : Value → Shared → Prop} {E : Value → Shared → Prop}, Q kk { s' with heap := h3 } → wpAny (model X.prog X.w) (X.A.mark (some (.ref a))) (eval (.Name x p) X.env) Q E { s' with heap := h3 } := fun {Q E} z => by
        obtain ⟨gl, nodbg, m | ⟨m, v, nn⟩⟩ := names
        · exact ld_glob (X := X.suite a ((a, oe3) :: (X.pn ++ pins))) S3 gl m z nodbg
        · exact ld_blt (X := X.suite a ((a, oe3) :: (X.pn ++ pins))) S3 gl m v z nn nodbg
      refine wpAny_handleBy_cons (codeAny_handlers_test (reads (exm.here ?_))) (by intro z; cases z)
      cases b with
      | false => exact ih next
      | true =>
        refine codeAny_handlers_suite_as (HandSPX.lands_againZ fl3 fun h4 fl4 up4 => ?_)
        have J4 : Inv X pins τ' H' { s' with heap := h4 } := J.landed nb fl4.1 ((up.trans up3).trans up4) os bare
        obtain ⟨oe4, vs4, at4, z4, f4⟩ := fl4.there
        have S4 := J4.suite at4 f4 na aL aF
        refine store_ok (X := X.suite a ((a, oe4) :: (X.pn ++ pins))) (v := .ref a) S4 nd hi (.inl loc) rfl (fun s5 S5 => ?_) (.inr loc)
        refine wpAny_mono ((suite a oe4 cls d (X.pn ++ pins) z4 ⟨_, f4⟩).run [] s5 _ H' _ S5 (next a na)) (fun f s6 fin => ?_) fun _ _ z => z.elim
        have gone : ∀ {τ6 : L2.St} {H6 : Hp} {Q : Shared → Prop}, Inv (X.suite a ((a, oe4) :: (X.pn ++ pins))) [] τ6 H6 s6 → (∀ s7, Inv X pins (τ6.set i none) H6 s7 → Q s7) →
            wpAny (model X.prog X.w) X.A (do bindName X.env n .none; unbindBehindTheSuite X.env n p') (fun _ s7 => Q s7) X.xe s6 := fun S6 k => gone_ok (S6.unsuite ok) nd hi loc k
        match f, fin with
        | .next, ⟨τ6, H6, S6, z⟩ => exact gone S6 fun s7 J7 => ⟨_, _, J7, z⟩
        | .brk, ⟨τ6, H6, S6, z⟩ => exact gone S6 fun s7 J7 => ⟨_, _, J7, z⟩
        | .cont, ⟨τ6, H6, S6, z⟩ => exact gone S6 fun s7 J7 => ⟨_, _, J7, z⟩
        | .ret u, ⟨v6, τ6, H6, S6, r6, z⟩ => exact gone S6 fun s7 J7 => ⟨_, _, _, J7, r6, z⟩
  · intro f s1 fin
    match f, fin with
    | .next, ⟨τ', H', J', z⟩ => exact wpAny_execs_nil ⟨τ', H', J'.ofTry ok, z⟩
    | .brk, ⟨τ', H', J', z⟩ => exact ⟨τ', H', J'.ofTry ok, z⟩
    | .cont, ⟨τ', H', J', z⟩ => exact ⟨τ', H', J'.ofTry ok, z⟩
    | .ret u, ⟨v, τ', H', J', r, z⟩ => exact ⟨v, τ', H', J'.ofTry ok, r, z⟩
/-- raising an exception without fields that has just been made -/
theorem pmk_v {e : Expr} {te : TE} (none' : X.ex = []) (he : PE X e te) :
    PMk X e (fun τ H Q => te τ H fun x J => ∃ a C, x = .ref a ∧ J a = some (exo a C none) ∧ X.H_0 a = none ∧ OexC X.K C ∧ Q (.ref C) none (delH J a)) := by
  intro pins s τ H Q I want
  refine thn (he.run pins s τ H _ I want) fun u s1 ⟨v, J, I1, r, a, C, ex, ha, h0, T, z⟩ => ?_
  subst ex
  obtain rfl : u = Value.ref a := r
  obtain ⟨t1, there⟩ := exo_at I1.hok ha
  obtain ⟨G, le, gone, I2⟩ := I1.untrack ha (fr0_none h0) none'
  exact ⟨a, _, _, { s1 with heap := G }, delH J a, .ref C, none, rfl, I2, le, gone, there, ⟨rfl, rfl⟩, rfl, rfl, delH_same, rfl, I1.bare, raises_own T.exC T.tyC, z⟩
theorem ps_raise_v (H0 : Hp) (K0 : PySem.W.Frag) {W : WX} {e : Expr} {te : TE} (tk : Takes X W) (e0 : X.H_0 = H0) (eK : X.K = K0) (he : PE X e te) (calm : X.calm = true := by rfl) (none' : X.ex = [] := by rfl) :
    PS X (.Raise (some e) none pos) (fun _ τ H => te τ H fun x J => ∃ a C, x = .ref a ∧ J a = some (exo a C none) ∧ H0 a = none ∧ OexC K0 C ∧ W (.ref C) none τ (delH J a)) := by
  subst e0 eK
  exact ps_raise calm tk (pmk_v none' he)
end
end K9
set_option Elab.async false
set_option linter.all false
set_option maxRecDepth 100000
set_option maxHeartbeats 8000000
/-! The fields; strangers; raising and catching. -/
namespace K9
open PySem L2
structure Gc (mg : Str → Option Value) : Prop where
  lk : mg "LookupError" = none
  ar : mg "ArithmeticError" = none
  te : mg "TypeError" = none
  zip : mg "zip" = none
theorem look1 {i : Nat} {x y : V} (h : i < 7) : (fsOf i x y).lookup (fldE i) = some x := by
  unfold fsOf
  rw [if_pos h]
  simp
theorem look_a {x y : V} : (fsOf 7 x y).lookup ("arrow" : Str) = some x := by
  have e : (("arrow" : Str) == "column") = false := by decide +kernel
  show List.lookup ("arrow" : Str) [("column", y), ("arrow", x)] = _
  simp [List.lookup, e]
theorem look_c {x y : V} : (fsOf 7 x y).lookup ("column" : Str) = some y := by
  show List.lookup ("column" : Str) [("column", y), ("arrow", x)] = _
  simp [List.lookup]
theorem mkr1 {C : Addr} {f : Str} {v : V} {H : Hp} {Q : XK} (k : ∀ d H', Ext H H' → H' d = some (.xd [(f, v)]) → Q (.ref C) (some d) H') : ∀ a, H a = none → spF1 C f (.ref a :: ([v] ++ [])) (upd H a (exo a C none))
    (fun v H2 => v = .non ∧ ∃ (d : Addr) (fs : List (Str × V)), H2 a = some (exo a C (some d)) ∧ H2 d = some (exd d fs) ∧ H d = none ∧ Q (.ref C) (some d) (upd (L2.del H2 a) d (.xd fs))) (fun _ _ _ => False) := by
  intro a na
  refine ⟨a, v, rfl, upd_same, fun d nd ne => ⟨rfl, d, _, upd_same, by rw [upd_ne ne, upd_same], by rw [upd_ne ne] at nd; exact nd, k d _ (fun b o e => ?_) upd_same⟩⟩
  rw [upd_ne ne] at nd
  have h1 := ne_of_none e na
  have h2 := ne_of_none e nd
  rw [upd_ne h2, del_ne h1, upd_ne h1, upd_ne h2, upd_ne h1]
  exact e
theorem mkr2 {C : Addr} {v u : V} {H : Hp} {Q : XK} (k : ∀ d H', Ext H H' → H' d = some (.xd [("column", u), ("arrow", v)]) → Q (.ref C) (some d) H') : ∀ a, H a = none → spF2 C (.ref a :: ([v, u] ++ [])) (upd H a (exo a C none))
    (fun v H2 => v = .non ∧ ∃ (d : Addr) (fs : List (Str × V)), H2 a = some (exo a C (some d)) ∧ H2 d = some (exd d fs) ∧ H d = none ∧ Q (.ref C) (some d) (upd (L2.del H2 a) d (.xd fs))) (fun _ _ _ => False) := by
  intro a na
  refine ⟨a, v, u, rfl, upd_same, fun d H' nd ne q1 q2 q3 => ⟨rfl, d, _, q1, q2, by rw [upd_ne ne] at nd; exact nd, k d _ (fun b o e => ?_) upd_same⟩⟩
  rw [upd_ne ne] at nd
  have h1 := ne_of_none e na
  have h2 := ne_of_none e nd
  rw [upd_ne h2, del_ne h1, q3 b h1 h2, upd_ne h1]
  exact e
section
variable {P : Program} {w : World} {K : PySem.W.Frag} {mg : Str → Option Value} {base : Heap} {c fi : Nat → Addr}
abbrev sFields : Stmt := top 62
theorem scFields : FnScope ["errors", "found"] ["errors"] (defScope sFields) := ⟨rfl, rfl, rfl, by decide +kernel, rfl, by decide +kernel, by decide +kernel⟩
def spFields (c : Nat → Addr) : Sp := fun vs H Q _ => ∃ (r : Addr) (as : List Addr) (x y : V), vs = [.ref r] ∧ H r = some (.lst (as.map V.ref)) ∧ as.length = 33 ∧ AllAt c x y H as ∧ ∀ (l : Addr) (H' : Hp), Ext H H' → H' l = some (.lst [x, x, x, x, x, x, x, x, y]) → Q (.ref l) H'
theorem ok_fields {f : Addr} {fd : FuncData} (F : L2.Fun K "_law_fields" "_law_fields" sFields f fd) (C : ClsE K mg c fi) : FnOk P w K mg base CX0 1 f fd ["errors"] (spFields c) := by
  refine F.ok scFields (fun vs H Q E h => ?_) (fun cdv A outer s H vs Q E hr h => ?_)
  · obtain ⟨r, as, x, y, rfl, _⟩ := h
    rfl
  · obtain ⟨r, as, x, y, rfl, hr0, len, all, k⟩ := h
    have i0 : as[0]? = some (as[0]'(by omega)) := List.getElem?_eq_getElem (by omega)
    have x0 := all 0 _ i0
    generalize as[0]'(by omega) = a0 at *
    have v0 : (as.map V.ref)[0]? = some (.ref a0) := by
      rw [List.getElem?_map, i0]
      rfl
    have i1 : as[1]? = some (as[1]'(by omega)) := List.getElem?_eq_getElem (by omega)
    have x1 := all 1 _ i1
    generalize as[1]'(by omega) = a1 at *
    have v1 : (as.map V.ref)[1]? = some (.ref a1) := by
      rw [List.getElem?_map, i1]
      rfl
    have i2 : as[2]? = some (as[2]'(by omega)) := List.getElem?_eq_getElem (by omega)
    have x2 := all 2 _ i2
    generalize as[2]'(by omega) = a2 at *
    have v2 : (as.map V.ref)[2]? = some (.ref a2) := by
      rw [List.getElem?_map, i2]
      rfl
    have i3 : as[3]? = some (as[3]'(by omega)) := List.getElem?_eq_getElem (by omega)
    have x3 := all 3 _ i3
    generalize as[3]'(by omega) = a3 at *
    have v3 : (as.map V.ref)[3]? = some (.ref a3) := by
      rw [List.getElem?_map, i3]
      rfl
    have i4 : as[4]? = some (as[4]'(by omega)) := List.getElem?_eq_getElem (by omega)
    have x4 := all 4 _ i4
    generalize as[4]'(by omega) = a4 at *
    have v4 : (as.map V.ref)[4]? = some (.ref a4) := by
      rw [List.getElem?_map, i4]
      rfl
    have i5 : as[5]? = some (as[5]'(by omega)) := List.getElem?_eq_getElem (by omega)
    have x5 := all 5 _ i5
    generalize as[5]'(by omega) = a5 at *
    have v5 : (as.map V.ref)[5]? = some (.ref a5) := by
      rw [List.getElem?_map, i5]
      rfl
    have i6 : as[6]? = some (as[6]'(by omega)) := List.getElem?_eq_getElem (by omega)
    have x6 := all 6 _ i6
    generalize as[6]'(by omega) = a6 at *
    have v6 : (as.map V.ref)[6]? = some (.ref a6) := by
      rw [List.getElem?_map, i6]
      rfl
    have i7 : as[7]? = some (as[7]'(by omega)) := List.getElem?_eq_getElem (by omega)
    have x7 := all 7 _ i7
    generalize as[7]'(by omega) = a7 at *
    have v7 : (as.map V.ref)[7]? = some (.ref a7) := by
      rw [List.getElem?_map, i7]
      rfl
    refine ⟨_, pss_cons (ps_set (i := 1) scFields.nd rfl (Or.inl rfl) (pe_lst (pa_cons (pe_exf (pe_ix ix_list (pv 0) pe_int (fun _ _ => rfl))) (pa_cons (pe_exf (pe_ix ix_list (pv 0) pe_int (fun _ _ => rfl))) (pa_cons (pe_exf (pe_ix ix_list (pv 0) pe_int (fun _ _ => rfl))) pa_nil))))) (pss_cons (ps_set (i := 1) scFields.nd rfl (Or.inl rfl) (pe_op op_cat (pv 1) (pe_lst (pa_cons (pe_exf (pe_ix ix_list (pv 0) pe_int (fun _ _ => rfl))) (pa_cons (pe_exf (pe_ix ix_list (pv 0) pe_int (fun _ _ => rfl))) (pa_cons (pe_exf (pe_ix ix_list (pv 0) pe_int (fun _ _ => rfl))) pa_nil)))))) (pss_one (ps_ret (pe_op op_cat (pv 1) (pe_lst (pa_cons (pe_exf (pe_ix ix_list (pv 0) pe_int (fun _ _ => rfl))) (pa_cons (pe_exf (pe_ix ix_list (pv 0) pe_int (fun _ _ => rfl))) (pa_cons (pe_exf (pe_ix ix_list (pv 0) pe_int (fun _ _ => rfl))) pa_nil)))))))), ?_⟩
    refine ⟨_, rfl, r, _, 0, _, rfl, rfl, SqL.of hr0, atI_nat (j := 0) v0, a0, c 0, _, _, rfl, C.xf 0 (by decide), C.nf 0 (by decide), x0, look1 (i := 0) (by decide), ⟨_, rfl, r, _, 1, _, rfl, rfl, SqL.of hr0, atI_nat (j := 1) v1, a1, c 1, _, _, rfl, C.xf 1 (by decide), C.nf 1 (by decide), x1, look1 (i := 1) (by decide), ⟨_, rfl, r, _, 2, _, rfl, rfl, SqL.of hr0, atI_nat (j := 2) v2, a2, c 2, _, _, rfl, C.xf 2 (by decide), C.nf 2 (by decide), x2, look1 (i := 2) (by decide), ⟨by show 3 ≤ sizeLine; decide, fun l0 n0 => ?_⟩⟩⟩⟩
    have d0 : Ext H (upd H l0 (.lst [x, x, x])) := Ext.upd n0
    have h0 : upd H l0 (.lst [x, x, x]) l0 = some (.lst [x, x, x]) := upd_same
    generalize upd H l0 (.lst [x, x, x]) = L0 at *
    have E0 := d0
    refine ⟨_, rfl, ⟨_, rfl, r, _, 3, _, rfl, rfl, SqL.of (E0 _ _ hr0), atI_nat (j := 3) v3, a3, c 3, _, _, rfl, C.xf 3 (by decide), C.nf 3 (by decide), (x3.ext E0), look1 (i := 3) (by decide), ⟨_, rfl, r, _, 4, _, rfl, rfl, SqL.of (E0 _ _ hr0), atI_nat (j := 4) v4, a4, c 4, _, _, rfl, C.xf 4 (by decide), C.nf 4 (by decide), (x4.ext E0), look1 (i := 4) (by decide), ⟨_, rfl, r, _, 5, _, rfl, rfl, SqL.of (E0 _ _ hr0), atI_nat (j := 5) v5, a5, c 5, _, _, rfl, C.xf 5 (by decide), C.nf 5 (by decide), (x5.ext E0), look1 (i := 5) (by decide), ⟨by show 3 ≤ sizeLine; decide, fun l1 n1 => ?_⟩⟩⟩⟩⟩
    have d1 : Ext L0 (upd L0 l1 (.lst [x, x, x])) := Ext.upd n1
    have h1 : upd L0 l1 (.lst [x, x, x]) l1 = some (.lst [x, x, x]) := upd_same
    generalize upd L0 l1 (.lst [x, x, x]) = L1 at *
    refine ⟨l0, l1, [x, x, x], [x, x, x], rfl, rfl, d1 _ _ h0, h1, by show 6 ≤ sizeLine; decide, fun p1 q1 => ?_⟩
    have f1 : Ext L1 (upd L1 p1 (.lst ([x, x, x] ++ [x, x, x]))) := Ext.upd q1
    have g1 : upd L1 p1 (.lst ([x, x, x] ++ [x, x, x])) p1 = some (.lst [x, x, x, x, x, x]) := upd_same
    generalize upd L1 p1 (.lst ([x, x, x] ++ [x, x, x])) = M1 at *
    have E1 := E0.trans (d1.trans f1)
    refine ⟨_, rfl, ⟨_, rfl, r, _, 6, _, rfl, rfl, SqL.of (E1 _ _ hr0), atI_nat (j := 6) v6, a6, c 6, _, _, rfl, C.xf 6 (by decide), C.nf 6 (by decide), (x6.ext E1), look1 (i := 6) (by decide), ⟨_, rfl, r, _, 7, _, rfl, rfl, SqL.of (E1 _ _ hr0), atI_nat (j := 7) v7, a7, c 7, _, _, rfl, C.xf 7 (by decide), C.na, (x7.ext E1), look_a, ⟨_, rfl, r, _, 7, _, rfl, rfl, SqL.of (E1 _ _ hr0), atI_nat (j := 7) v7, a7, c 7, _, _, rfl, C.xf 7 (by decide), C.nc, (x7.ext E1), look_c, ⟨by show 3 ≤ sizeLine; decide, fun l2 n2 => ?_⟩⟩⟩⟩⟩
    have d2 : Ext M1 (upd M1 l2 (.lst [x, x, y])) := Ext.upd n2
    have h2 : upd M1 l2 (.lst [x, x, y]) l2 = some (.lst [x, x, y]) := upd_same
    generalize upd M1 l2 (.lst [x, x, y]) = L2 at *
    refine ⟨p1, l2, [x, x, x, x, x, x], [x, x, y], rfl, rfl, d2 _ _ g1, h2, by show 9 ≤ sizeLine; decide, fun p2 q2 => ?_⟩
    have f2 : Ext L2 (upd L2 p2 (.lst ([x, x, x, x, x, x] ++ [x, x, y]))) := Ext.upd q2
    have g2 : upd L2 p2 (.lst ([x, x, x, x, x, x] ++ [x, x, y])) p2 = some (.lst [x, x, x, x, x, x, x, x, y]) := upd_same
    generalize upd L2 p2 (.lst ([x, x, x, x, x, x] ++ [x, x, y])) = M2 at *
    have E2 := E1.trans (d2.trans f2)
    exact k _ _ E2 g2
abbrev sAlien : Stmt := top 63
theorem scAlien : FnScope ["error"] ["error"] (defScope sAlien) := ⟨rfl, rfl, rfl, by decide +kernel, rfl, by decide +kernel, by decide +kernel⟩
def spAlien (c : Nat → Addr) : Sp := fun vs H Q _ => ∃ (a : Addr) (i : Nat) (fs : List (Str × V)), vs = [.ref a] ∧ i < 34 ∧ ExAt H a (c i) fs ∧ ∀ H', Ext H H' → Q (.bl false) H'
theorem ok_alien {f : Addr} {fd : FuncData} (F : L2.Fun K "_law_is_alien" "_law_is_alien" sAlien f fd) (T : Gb mg) (T2 : Gc mg) (C : ClsE K mg c fi) : FnOk P w K mg base CX0 1 f fd ["error"] (spAlien c) := by
  refine F.ok scAlien (fun vs H Q E h => ?_) (fun cdv A outer s H vs Q E hr h => ?_)
  · obtain ⟨a, i, fs, rfl, _⟩ := h
    rfl
  · obtain ⟨a, i, fs, rfl, hi, hx, k⟩ := h
    have m33 : mg "WebError" = some (.ref (c 33)) := C.mgc 33 (by decide)
    have k33 : PySem.W.kitOne K (.ref (c i)) (.ref (c 33)) = some true := (C.kit i 33 hi (by decide)).trans (by simp)
    refine ⟨_, pss_cons (ps_if (pt_val (pe_callB call_isVT (by rfl) T.isi (by decide +kernel) (pa_cons (pv 0) (pa_cons (pe_tup (pa_cons (pe_bltn (v := .ty "LookupError") (by rfl) T2.lk (by decide +kernel) rfl) (pa_cons (pe_bltn (v := .ty "ArithmeticError") (by rfl) T2.ar (by decide +kernel) rfl) (pa_cons (pe_bltn (v := .ty "TypeError") (by rfl) T2.te (by decide +kernel) rfl) pa_nil)))) pa_nil)))) (pss_one (ps_ret pe_bl)) pss_nil)
      (pss_one (ps_ret (pe_or (pe_not (pe_callB call_isV (by rfl) T.isi (by decide +kernel) (pa_cons (pv 0) (pa_cons (pe_glob (v := .ref (c 33)) rfl m33 rfl) pa_nil)))) (pe_one (pe_not (pe_callB call_isV (by rfl) T.isi (by decide +kernel) (pa_cons (pv 0) (pa_cons (pe_bltn (v := .ty "ValueError") (by rfl) T.ve (by decide +kernel) rfl) pa_nil)))))))), ?_⟩
    refine ⟨_, rfl, by show 3 ≤ sizeLine; decide, fun t n => ?_⟩
    have e1 : Ext H (upd H t (.tup [.ty "LookupError", .ty "ArithmeticError", .ty "TypeError"])) := Ext.upd n
    have is := C.is i hi
    refine ⟨a, c i, fs, t, _, _, false, rfl, upd_same, .cons (.ty _) (.cons (.ty _) (.cons (.ty _) .nil)), is, hx.ext e1, C.ni i hi, _, rfl, iteF ?_⟩
    refine ⟨_, rfl, a, c i, fs, _, .ref (c 33), true, rfl, .own (c 33), is, hx.ext e1, k33, _, rfl, _, rfl, iteF ?_⟩
    refine ⟨_, rfl, a, c i, fs, _, .type "ValueError", true, rfl, .ty _, is, hx.ext e1, C.ve i hi, _, rfl, ?_⟩
    exact k _ e1
abbrev sRaise : Stmt := top 58
theorem scRaise : FnScope ["which", "thing", "other"] ["which", "thing", "other"] (defScope sRaise) := ⟨rfl, rfl, rfl, by decide +kernel, rfl, by decide +kernel, by decide +kernel⟩
def spRaise (c : Nat → Addr) : Sp := fun vs H _ E => ∃ (w : Nat) (x y : V), vs = [.int (w : Int), x, y] ∧ w < 8 ∧ ∀ d H', Ext H H' → H' d = some (.xd (fsOf w x y)) → E (.ref (c w)) (some d) H'
theorem ok_raise {f : Addr} {fd : FuncData} (F : L2.Fun K "_law_raise" "_law_raise" sRaise f fd) (C : ClsE K mg c fi) (N : Inis P w K mg base c fi) : FnOk P w K mg base (L2.CX P w) 3 f fd ["which", "thing", "other"] (spRaise c) := by
  refine F.okX scRaise (fun vs H Q E h => ?_) (fun cdv A outer s H vs Q E hr h => ?_)
  · obtain ⟨w', x, y, rfl, _⟩ := h
    rfl
  · obtain ⟨w', x, y, rfl, hw, k⟩ := h
    have m0 : mg "BadTable" = some (.ref (c 0)) := C.mgc 0 (by decide)
    obtain ⟨fd0, G0, B0⟩ := N.g0
    have m1 : mg "BadWeb" = some (.ref (c 1)) := C.mgc 1 (by decide)
    obtain ⟨fd1, G1, B1⟩ := N.g1
    have m2 : mg "BadPicture" = some (.ref (c 2)) := C.mgc 2 (by decide)
    obtain ⟨fd2, G2, B2⟩ := N.g2
    have m3 : mg "BadTower" = some (.ref (c 3)) := C.mgc 3 (by decide)
    obtain ⟨fd3, G3, B3⟩ := N.g3
    have m4 : mg "BadText" = some (.ref (c 4)) := C.mgc 4 (by decide)
    obtain ⟨fd4, G4, B4⟩ := N.g4
    have m5 : mg "TooMany" = some (.ref (c 5)) := C.mgc 5 (by decide)
    obtain ⟨fd5, G5, B5⟩ := N.g5
    have m6 : mg "NoName" = some (.ref (c 6)) := C.mgc 6 (by decide)
    obtain ⟨fd6, G6, B6⟩ := N.g6
    have m7 : mg "BadAnswer" = some (.ref (c 7)) := C.mgc 7 (by decide)
    obtain ⟨fd7, G7, B7⟩ := N.g7
    refine ⟨_, (pss_cons (ps_if (pt_cmpR op_eq (pv 0) pe_int (nomark _)) (pss_one (ps_raise rfl (takes_of rfl rfl rfl rfl) (pmk_oex (C.ex 0 (by decide)) (C.iC 0 (by decide)) (C.tI 0 (by decide)) G0 hr B0 .nil pass0 (by rfl) m0 (pa_cons (pv 1) pa_nil)))) pss_nil)
          (pss_cons (ps_if (pt_cmpR op_eq (pv 0) pe_int (nomark _)) (pss_one (ps_raise rfl (takes_of rfl rfl rfl rfl) (pmk_oex (C.ex 1 (by decide)) (C.iC 1 (by decide)) (C.tI 1 (by decide)) G1 hr B1 .nil pass0 (by rfl) m1 (pa_cons (pv 1) pa_nil)))) pss_nil)
          (pss_cons (ps_if (pt_cmpR op_eq (pv 0) pe_int (nomark _)) (pss_one (ps_raise rfl (takes_of rfl rfl rfl rfl) (pmk_oex (C.ex 2 (by decide)) (C.iC 2 (by decide)) (C.tI 2 (by decide)) G2 hr B2 .nil pass0 (by rfl) m2 (pa_cons (pv 1) pa_nil)))) pss_nil)
          (pss_cons (ps_if (pt_cmpR op_eq (pv 0) pe_int (nomark _)) (pss_one (ps_raise rfl (takes_of rfl rfl rfl rfl) (pmk_oex (C.ex 3 (by decide)) (C.iC 3 (by decide)) (C.tI 3 (by decide)) G3 hr B3 .nil pass0 (by rfl) m3 (pa_cons (pv 1) pa_nil)))) pss_nil)
          (pss_cons (ps_if (pt_cmpR op_eq (pv 0) pe_int (nomark _)) (pss_one (ps_raise rfl (takes_of rfl rfl rfl rfl) (pmk_oex (C.ex 4 (by decide)) (C.iC 4 (by decide)) (C.tI 4 (by decide)) G4 hr B4 .nil pass0 (by rfl) m4 (pa_cons (pv 1) pa_nil)))) pss_nil)
          (pss_cons (ps_if (pt_cmpR op_eq (pv 0) pe_int (nomark _)) (pss_one (ps_raise rfl (takes_of rfl rfl rfl rfl) (pmk_oex (C.ex 5 (by decide)) (C.iC 5 (by decide)) (C.tI 5 (by decide)) G5 hr B5 .nil pass0 (by rfl) m5 (pa_cons (pv 1) pa_nil)))) pss_nil)
          (pss_cons (ps_if (pt_cmpR op_eq (pv 0) pe_int (nomark _)) (pss_one (ps_raise rfl (takes_of rfl rfl rfl rfl) (pmk_oex (C.ex 6 (by decide)) (C.iC 6 (by decide)) (C.tI 6 (by decide)) G6 hr B6 .nil pass0 (by rfl) m6 (pa_cons (pv 1) pa_nil)))) pss_nil)
          (pss_one (ps_raise rfl (takes_of rfl rfl rfl rfl) (pmk_oex (C.ex 7 (by decide)) (C.iC 7 (by decide)) (C.tI 7 (by decide)) G7 hr B7 .nil pass0 (by rfl) m7 (pa_cons (pv 1) (pa_cons (pv 2) pa_nil)))))))))))), ?_⟩
    refine ⟨_, rfl, rfl, _, rfl, ?_⟩
    refine ite2 (fun z => ?_) (fun z0 => ?_)
    · obtain rfl : w' = 0 := by
        have q := of_decide_eq_true z
        injection q with q
        omega
      exact ⟨_, rfl, by show 1 ≤ 1000; decide, mkr1 (Q := E) fun d H' e hd => k d H' e hd⟩
    refine ⟨_, rfl, rfl, _, rfl, ?_⟩
    refine ite2 (fun z => ?_) (fun z1 => ?_)
    · obtain rfl : w' = 1 := by
        have q := of_decide_eq_true z
        injection q with q
        omega
      exact ⟨_, rfl, by show 1 ≤ 1000; decide, mkr1 (Q := E) fun d H' e hd => k d H' e hd⟩
    refine ⟨_, rfl, rfl, _, rfl, ?_⟩
    refine ite2 (fun z => ?_) (fun z2 => ?_)
    · obtain rfl : w' = 2 := by
        have q := of_decide_eq_true z
        injection q with q
        omega
      exact ⟨_, rfl, by show 1 ≤ 1000; decide, mkr1 (Q := E) fun d H' e hd => k d H' e hd⟩
    refine ⟨_, rfl, rfl, _, rfl, ?_⟩
    refine ite2 (fun z => ?_) (fun z3 => ?_)
    · obtain rfl : w' = 3 := by
        have q := of_decide_eq_true z
        injection q with q
        omega
      exact ⟨_, rfl, by show 1 ≤ 1000; decide, mkr1 (Q := E) fun d H' e hd => k d H' e hd⟩
    refine ⟨_, rfl, rfl, _, rfl, ?_⟩
    refine ite2 (fun z => ?_) (fun z4 => ?_)
    · obtain rfl : w' = 4 := by
        have q := of_decide_eq_true z
        injection q with q
        omega
      exact ⟨_, rfl, by show 1 ≤ 1000; decide, mkr1 (Q := E) fun d H' e hd => k d H' e hd⟩
    refine ⟨_, rfl, rfl, _, rfl, ?_⟩
    refine ite2 (fun z => ?_) (fun z5 => ?_)
    · obtain rfl : w' = 5 := by
        have q := of_decide_eq_true z
        injection q with q
        omega
      exact ⟨_, rfl, by show 1 ≤ 1000; decide, mkr1 (Q := E) fun d H' e hd => k d H' e hd⟩
    refine ⟨_, rfl, rfl, _, rfl, ?_⟩
    refine ite2 (fun z => ?_) (fun z6 => ?_)
    · obtain rfl : w' = 6 := by
        have q := of_decide_eq_true z
        injection q with q
        omega
      exact ⟨_, rfl, by show 1 ≤ 1000; decide, mkr1 (Q := E) fun d H' e hd => k d H' e hd⟩
    obtain rfl : w' = 7 := by
      have q0 : ¬ ((w' : Int) = 0) := fun e => z0 (decide_eq_true (congrArg V.int e))
      have q1 : ¬ ((w' : Int) = 1) := fun e => z1 (decide_eq_true (congrArg V.int e))
      have q2 : ¬ ((w' : Int) = 2) := fun e => z2 (decide_eq_true (congrArg V.int e))
      have q3 : ¬ ((w' : Int) = 3) := fun e => z3 (decide_eq_true (congrArg V.int e))
      have q4 : ¬ ((w' : Int) = 4) := fun e => z4 (decide_eq_true (congrArg V.int e))
      have q5 : ¬ ((w' : Int) = 5) := fun e => z5 (decide_eq_true (congrArg V.int e))
      have q6 : ¬ ((w' : Int) = 6) := fun e => z6 (decide_eq_true (congrArg V.int e))
      omega
    exact ⟨_, rfl, _, rfl, by show 2 ≤ 1000; decide, mkr2 (Q := E) fun d H' e hd => k d H' e hd⟩
end
end K9
set_option Elab.async false
set_option linter.all false
set_option maxRecDepth 100000
set_option maxHeartbeats 8000000
/-! Caught. -/
namespace K9
open PySem L2
section
variable {P : Program} {w : World} {K : PySem.W.Frag} {mg : Str → Option Value} {base : Heap} {c fi : Nat → Addr}
abbrev sCaught : Stmt := top 59
theorem scCaught : FnScope ["which", "thing", "other", "found", "e"] ["which", "thing", "other"] (defScope sCaught) := ⟨rfl, rfl, rfl, by decide +kernel, rfl, by decide +kernel, by decide +kernel⟩
def kept (w : Nat) (x y : V) : List V := if w = 7 then [x, y] else [x]
def spCaught (c : Nat → Addr) : Sp := fun vs H Q _ => ∃ (w : Nat) (x y : V), vs = [.int (w : Int), x, y] ∧ w < 8 ∧ ∀ (r l : Addr) (H' : Hp), Ext H H' → H' r = some (.tup [.int (w : Int), .ref l]) → H' l = some (.lst (kept w x y)) → Q (.ref r) H'
theorem ok_caught {f fR : Addr} {fd fdR : FuncData} (F : L2.Fun K "_law_caught" "_law_caught" sCaught f fd) (C : ClsE K mg c fi) (GR : FnOk P w K mg base (L2.CX P w) 3 fR fdR ["which", "thing", "other"] (spRaise c)) (mR : mg "_law_raise" = some (.ref fR)) (kR : PySem.W.keepIn K (.ref fR) = true) (bR : Binds K fdR ["which", "thing", "other"] []) :
    FnOk P w K mg base CX0 4 f fd ["which", "thing", "other"] (spCaught c) := by
  refine F.ok scCaught (fun vs H Q E h => ?_) (fun cdv A outer s H vs Q E hr h => ?_)
  · obtain ⟨w', x, y, rfl, _⟩ := h
    rfl
  · obtain ⟨w', x, y, rfl, hw, k⟩ := h
    have m0 : mg "BadTable" = some (.ref (c 0)) := C.mgc 0 (by decide)
    have m1 : mg "BadWeb" = some (.ref (c 1)) := C.mgc 1 (by decide)
    have m2 : mg "BadPicture" = some (.ref (c 2)) := C.mgc 2 (by decide)
    have m3 : mg "BadTower" = some (.ref (c 3)) := C.mgc 3 (by decide)
    have m4 : mg "BadText" = some (.ref (c 4)) := C.mgc 4 (by decide)
    have m5 : mg "TooMany" = some (.ref (c 5)) := C.mgc 5 (by decide)
    have m6 : mg "NoName" = some (.ref (c 6)) := C.mgc 6 (by decide)
    have m7 : mg "BadAnswer" = some (.ref (c 7)) := C.mgc 7 (by decide)
    refine ⟨_, pss_cons (ps_set (i := 3) scCaught.nd rfl (Or.inl rfl) (pe_tup (pa_cons pe_int (pa_cons (pe_lst pa_nil) pa_nil))))
          (pss_cons (ps_try_each (i := 4) (tb := fun W => tDrop (tCallS (spRaise c) (WE W) (tCons (tVar 0) (tCons (tVar 1) (tCons (tVar 2) tNil))))) rfl rfl scCaught.nd rfl rfl (fun W pn xe tk _ => pss_one (ps_expr (pe_callS GR hr (by rfl) mR kR bR (fun σ => passAt tk σ) (pa_cons (pv 0) (pa_cons (pv 1) (pa_cons (pv 2) pa_nil))))))
          (.cons ⟨rfl, by decide, .inl m0⟩ (fun a oe cls d pn hz hf => pss_one (ps_set (i := 3) scCaught.nd rfl (Or.inl rfl) (pe_tup (pa_cons pe_int (pa_cons (pe_lst (pa_cons (pe_xf (C.xf 0 (by decide)) (C.nf 0 (by decide)) hz hf (pv 4)) pa_nil)) pa_nil)))))
          (.cons ⟨rfl, by decide, .inl m1⟩ (fun a oe cls d pn hz hf => pss_one (ps_set (i := 3) scCaught.nd rfl (Or.inl rfl) (pe_tup (pa_cons pe_int (pa_cons (pe_lst (pa_cons (pe_xf (C.xf 1 (by decide)) (C.nf 1 (by decide)) hz hf (pv 4)) pa_nil)) pa_nil)))))
          (.cons ⟨rfl, by decide, .inl m2⟩ (fun a oe cls d pn hz hf => pss_one (ps_set (i := 3) scCaught.nd rfl (Or.inl rfl) (pe_tup (pa_cons pe_int (pa_cons (pe_lst (pa_cons (pe_xf (C.xf 2 (by decide)) (C.nf 2 (by decide)) hz hf (pv 4)) pa_nil)) pa_nil)))))
          (.cons ⟨rfl, by decide, .inl m3⟩ (fun a oe cls d pn hz hf => pss_one (ps_set (i := 3) scCaught.nd rfl (Or.inl rfl) (pe_tup (pa_cons pe_int (pa_cons (pe_lst (pa_cons (pe_xf (C.xf 3 (by decide)) (C.nf 3 (by decide)) hz hf (pv 4)) pa_nil)) pa_nil)))))
          (.cons ⟨rfl, by decide, .inl m4⟩ (fun a oe cls d pn hz hf => pss_one (ps_set (i := 3) scCaught.nd rfl (Or.inl rfl) (pe_tup (pa_cons pe_int (pa_cons (pe_lst (pa_cons (pe_xf (C.xf 4 (by decide)) (C.nf 4 (by decide)) hz hf (pv 4)) pa_nil)) pa_nil)))))
          (.cons ⟨rfl, by decide, .inl m5⟩ (fun a oe cls d pn hz hf => pss_one (ps_set (i := 3) scCaught.nd rfl (Or.inl rfl) (pe_tup (pa_cons pe_int (pa_cons (pe_lst (pa_cons (pe_xf (C.xf 5 (by decide)) (C.nf 5 (by decide)) hz hf (pv 4)) pa_nil)) pa_nil)))))
          (.cons ⟨rfl, by decide, .inl m6⟩ (fun a oe cls d pn hz hf => pss_one (ps_set (i := 3) scCaught.nd rfl (Or.inl rfl) (pe_tup (pa_cons pe_int (pa_cons (pe_lst (pa_cons (pe_xf (C.xf 6 (by decide)) (C.nf 6 (by decide)) hz hf (pv 4)) pa_nil)) pa_nil)))))
          (.cons ⟨rfl, by decide, .inl m7⟩ (fun a oe cls d pn hz hf => pss_one (ps_set (i := 3) scCaught.nd rfl (Or.inl rfl) (pe_tup (pa_cons pe_int (pa_cons (pe_lst (pa_cons (pe_xf (C.xf 7 (by decide)) C.na hz hf (pv 4)) (pa_cons (pe_xf (C.xf 7 (by decide)) C.nc hz hf (pv 4)) pa_nil))) pa_nil)))))
          .nil))))))))) (pss_one (ps_ret (pv 3)))), ?_⟩
    refine ⟨by show 0 ≤ sizeLine; decide, fun l0 n0 => ⟨by show 2 ≤ sizeLine; decide, fun t0 u0 => ?_⟩⟩
    have e0 : Ext H (upd (upd H l0 (.lst [])) t0 (.tup [.int 9, .ref l0])) := (Ext.upd n0).trans (Ext.upd u0)
    generalize upd (upd H l0 (.lst [])) t0 (.tup [.int 9, .ref l0]) = H1 at *
    refine ⟨_, rfl, _, rfl, _, rfl, w', x, y, rfl, hw, fun d H' e1 hd => ?_⟩
    have e2 := e0.trans e1
    clear n0 u0
    obtain rfl | rfl | rfl | rfl | rfl | rfl | rfl | rfl : w' = 0 ∨ w' = 1 ∨ w' = 2 ∨ w' = 3 ∨ w' = 4 ∨ w' = 5 ∨ w' = 6 ∨ w' = 7 := by omega
    · refine ⟨true, C.te 0 0 (by decide) (by decide), iteT fun a na => ?_⟩
      refine ⟨_, rfl, rfl, rfl, d, _, _, rfl, hd, look1 (i := 0) (by decide), ⟨by show 1 ≤ sizeLine; decide, fun l n => ⟨by show 2 ≤ sizeLine; decide, fun r u => ?_⟩⟩⟩
      exact ⟨_, rfl, k r l _ (e2.trans ((Ext.upd n).trans (Ext.upd u))) upd_same (Ext.upd u _ _ (upd_same (H := H') (a := l) (o := .lst [x])))⟩
    · refine ⟨false, C.te 1 0 (by decide) (by decide), iteF ?_⟩
      refine ⟨true, C.te 1 1 (by decide) (by decide), iteT fun a na => ?_⟩
      refine ⟨_, rfl, rfl, rfl, d, _, _, rfl, hd, look1 (i := 1) (by decide), ⟨by show 1 ≤ sizeLine; decide, fun l n => ⟨by show 2 ≤ sizeLine; decide, fun r u => ?_⟩⟩⟩
      exact ⟨_, rfl, k r l _ (e2.trans ((Ext.upd n).trans (Ext.upd u))) upd_same (Ext.upd u _ _ (upd_same (H := H') (a := l) (o := .lst [x])))⟩
    · refine ⟨false, C.te 2 0 (by decide) (by decide), iteF ?_⟩
      refine ⟨false, C.te 2 1 (by decide) (by decide), iteF ?_⟩
      refine ⟨true, C.te 2 2 (by decide) (by decide), iteT fun a na => ?_⟩
      refine ⟨_, rfl, rfl, rfl, d, _, _, rfl, hd, look1 (i := 2) (by decide), ⟨by show 1 ≤ sizeLine; decide, fun l n => ⟨by show 2 ≤ sizeLine; decide, fun r u => ?_⟩⟩⟩
      exact ⟨_, rfl, k r l _ (e2.trans ((Ext.upd n).trans (Ext.upd u))) upd_same (Ext.upd u _ _ (upd_same (H := H') (a := l) (o := .lst [x])))⟩
    · refine ⟨false, C.te 3 0 (by decide) (by decide), iteF ?_⟩
      refine ⟨false, C.te 3 1 (by decide) (by decide), iteF ?_⟩
      refine ⟨false, C.te 3 2 (by decide) (by decide), iteF ?_⟩
      refine ⟨true, C.te 3 3 (by decide) (by decide), iteT fun a na => ?_⟩
      refine ⟨_, rfl, rfl, rfl, d, _, _, rfl, hd, look1 (i := 3) (by decide), ⟨by show 1 ≤ sizeLine; decide, fun l n => ⟨by show 2 ≤ sizeLine; decide, fun r u => ?_⟩⟩⟩
      exact ⟨_, rfl, k r l _ (e2.trans ((Ext.upd n).trans (Ext.upd u))) upd_same (Ext.upd u _ _ (upd_same (H := H') (a := l) (o := .lst [x])))⟩
    · refine ⟨false, C.te 4 0 (by decide) (by decide), iteF ?_⟩
      refine ⟨false, C.te 4 1 (by decide) (by decide), iteF ?_⟩
      refine ⟨false, C.te 4 2 (by decide) (by decide), iteF ?_⟩
      refine ⟨false, C.te 4 3 (by decide) (by decide), iteF ?_⟩
      refine ⟨true, C.te 4 4 (by decide) (by decide), iteT fun a na => ?_⟩
      refine ⟨_, rfl, rfl, rfl, d, _, _, rfl, hd, look1 (i := 4) (by decide), ⟨by show 1 ≤ sizeLine; decide, fun l n => ⟨by show 2 ≤ sizeLine; decide, fun r u => ?_⟩⟩⟩
      exact ⟨_, rfl, k r l _ (e2.trans ((Ext.upd n).trans (Ext.upd u))) upd_same (Ext.upd u _ _ (upd_same (H := H') (a := l) (o := .lst [x])))⟩
    · refine ⟨false, C.te 5 0 (by decide) (by decide), iteF ?_⟩
      refine ⟨false, C.te 5 1 (by decide) (by decide), iteF ?_⟩
      refine ⟨false, C.te 5 2 (by decide) (by decide), iteF ?_⟩
      refine ⟨false, C.te 5 3 (by decide) (by decide), iteF ?_⟩
      refine ⟨false, C.te 5 4 (by decide) (by decide), iteF ?_⟩
      refine ⟨true, C.te 5 5 (by decide) (by decide), iteT fun a na => ?_⟩
      refine ⟨_, rfl, rfl, rfl, d, _, _, rfl, hd, look1 (i := 5) (by decide), ⟨by show 1 ≤ sizeLine; decide, fun l n => ⟨by show 2 ≤ sizeLine; decide, fun r u => ?_⟩⟩⟩
      exact ⟨_, rfl, k r l _ (e2.trans ((Ext.upd n).trans (Ext.upd u))) upd_same (Ext.upd u _ _ (upd_same (H := H') (a := l) (o := .lst [x])))⟩
    · refine ⟨false, C.te 6 0 (by decide) (by decide), iteF ?_⟩
      refine ⟨false, C.te 6 1 (by decide) (by decide), iteF ?_⟩
      refine ⟨false, C.te 6 2 (by decide) (by decide), iteF ?_⟩
      refine ⟨false, C.te 6 3 (by decide) (by decide), iteF ?_⟩
      refine ⟨false, C.te 6 4 (by decide) (by decide), iteF ?_⟩
      refine ⟨false, C.te 6 5 (by decide) (by decide), iteF ?_⟩
      refine ⟨true, C.te 6 6 (by decide) (by decide), iteT fun a na => ?_⟩
      refine ⟨_, rfl, rfl, rfl, d, _, _, rfl, hd, look1 (i := 6) (by decide), ⟨by show 1 ≤ sizeLine; decide, fun l n => ⟨by show 2 ≤ sizeLine; decide, fun r u => ?_⟩⟩⟩
      exact ⟨_, rfl, k r l _ (e2.trans ((Ext.upd n).trans (Ext.upd u))) upd_same (Ext.upd u _ _ (upd_same (H := H') (a := l) (o := .lst [x])))⟩
    · refine ⟨false, C.te 7 0 (by decide) (by decide), iteF ?_⟩
      refine ⟨false, C.te 7 1 (by decide) (by decide), iteF ?_⟩
      refine ⟨false, C.te 7 2 (by decide) (by decide), iteF ?_⟩
      refine ⟨false, C.te 7 3 (by decide) (by decide), iteF ?_⟩
      refine ⟨false, C.te 7 4 (by decide) (by decide), iteF ?_⟩
      refine ⟨false, C.te 7 5 (by decide) (by decide), iteF ?_⟩
      refine ⟨false, C.te 7 6 (by decide) (by decide), iteF ?_⟩
      refine ⟨true, C.te 7 7 (by decide) (by decide), iteT fun a na => ?_⟩
      refine ⟨_, rfl, rfl, rfl, d, _, _, rfl, hd, look_a, ⟨_, rfl, rfl, rfl, d, _, _, rfl, hd, look_c, ⟨by show 2 ≤ sizeLine; decide, fun l n => ⟨by show 2 ≤ sizeLine; decide, fun r u => ?_⟩⟩⟩⟩
      exact ⟨_, rfl, k r l _ (e2.trans ((Ext.upd n).trans (Ext.upd u))) upd_same (Ext.upd u _ _ (upd_same (H := H') (a := l) (o := .lst [x, y])))⟩
abbrev sBased : Stmt := top 60
theorem scBased : FnScope ["which", "thing", "other", "found"] ["which", "thing", "other"] (defScope sBased) := ⟨rfl, rfl, rfl, by decide +kernel, rfl, by decide +kernel, by decide +kernel⟩
def spBased : Sp := fun vs H Q _ => ∃ (w : Nat) (x y : V), vs = [.int (w : Int), x, y] ∧ w < 8 ∧ ∀ H' : Hp, Ext H H' → Q (.bl true) H'
theorem ok_based {f fR : Addr} {fd fdR : FuncData} (F : L2.Fun K "_law_based" "_law_based" sBased f fd) (C : ClsE K mg c fi) (GR : FnOk P w K mg base (L2.CX P w) 3 fR fdR ["which", "thing", "other"] (spRaise c)) (mR : mg "_law_raise" = some (.ref fR)) (kR : PySem.W.keepIn K (.ref fR) = true) (bR : Binds K fdR ["which", "thing", "other"] []) :
    FnOk P w K mg base CX0 4 f fd ["which", "thing", "other"] spBased := by
  refine F.ok scBased (fun vs H Q E h => ?_) (fun cdv A outer s H vs Q E hr h => ?_)
  · obtain ⟨w', x, y, rfl, _⟩ := h
    rfl
  · obtain ⟨w', x, y, rfl, hw, k⟩ := h
    have m33 : mg "WebError" = some (.ref (c 33)) := C.mgc 33 (by decide)
    refine ⟨_, pss_cons (ps_set (i := 3) scBased.nd rfl (Or.inl rfl) pe_bl)
      (pss_cons (ps_try_many (tb := fun W => tDrop (tCallS (spRaise c) (WE W) (tCons (tVar 0) (tCons (tVar 1) (tCons (tVar 2) tNil))))) (Wout := fun _ _ _ _ => False) rfl rfl takes0 (fun W pn xe tk _ => pss_one (ps_expr (pe_callS GR hr (by rfl) mR kR bR (fun σ => passAt tk σ) (pa_cons (pv 0) (pa_cons (pv 1) (pa_cons (pv 2) pa_nil))))))
        (.cons ⟨rfl, by decide, .inl m33⟩ (fun a oe cls d pn hz hf => pss_one (ps_set (i := 3) scBased.nd rfl (Or.inl rfl) pe_bl)) .nil))
      (pss_one (ps_ret (pv 3)))), ?_⟩
    refine ⟨_, rfl, _, rfl, _, rfl, w', x, y, rfl, hw, fun d H' e1 hd => ?_⟩
    exact ⟨true, (C.te w' 33 (by omega) (by decide)).trans (by simp), fun _ a na => ⟨_, rfl, k _ e1⟩, fun z => Bool.noConfusion z⟩
abbrev sPlain : Stmt := top 61
theorem scPlain : FnScope ["which", "found"] ["which"] (defScope sPlain) := ⟨rfl, rfl, rfl, by decide +kernel, rfl, by decide +kernel, by decide +kernel⟩
def spPlain : Sp := fun vs H Q _ => ∃ (w : Int), vs = [.int w] ∧ Q (.bl true) H
theorem ok_plain {f : Addr} {fd : FuncData} (F : L2.Fun K "_law_plain" "_law_plain" sPlain f fd) (C : ClsE K mg c fi) (N : Inis P w K mg base c fi) : FnOk P w K mg base CX0 3 f fd ["which"] spPlain := by
  refine F.ok scPlain (fun vs H Q E h => ?_) (fun cdv A outer s H vs Q E hr h => ?_)
  · obtain ⟨w', rfl, _⟩ := h
    rfl
  · obtain ⟨w', rfl, k⟩ := h
    have m33 : mg "WebError" = some (.ref (c 33)) := C.mgc 33 (by decide)
    have m8 : mg "NoColumn" = some (.ref (c 8)) := C.mgc 8 (by decide)
    obtain ⟨fd8, G8, B8⟩ := N.g C 8 (by decide) (by decide)
    have m9 : mg "NoFit" = some (.ref (c 9)) := C.mgc 9 (by decide)
    obtain ⟨fd9, G9, B9⟩ := N.g C 9 (by decide) (by decide)
    have m10 : mg "NoNumber" = some (.ref (c 10)) := C.mgc 10 (by decide)
    obtain ⟨fd10, G10, B10⟩ := N.g C 10 (by decide) (by decide)
    have m11 : mg "NoPrime" = some (.ref (c 11)) := C.mgc 11 (by decide)
    obtain ⟨fd11, G11, B11⟩ := N.g C 11 (by decide) (by decide)
    have m12 : mg "NoPolynomial" = some (.ref (c 12)) := C.mgc 12 (by decide)
    obtain ⟨fd12, G12, B12⟩ := N.g C 12 (by decide) (by decide)
    have m13 : mg "OtherWeb" = some (.ref (c 13)) := C.mgc 13 (by decide)
    obtain ⟨fd13, G13, B13⟩ := N.g C 13 (by decide) (by decide)
    have m14 : mg "NoLeading" = some (.ref (c 14)) := C.mgc 14 (by decide)
    obtain ⟨fd14, G14, B14⟩ := N.g C 14 (by decide) (by decide)
    refine ⟨_, pss_cons (ps_set (i := 1) scPlain.nd rfl (Or.inl rfl) pe_bl)
      (pss_cons (ps_try_many (Wout := fun _ _ _ _ => False) rfl rfl takes0 (fun W pn xe tk _ => (pss_cons (ps_if (pt_cmpR op_eq (pv 0) pe_int (nomark _)) (pss_one (ps_raise_v H K tk rfl rfl (pe_exv0 (C.ex 8 (by decide)) (C.iC 8 (by decide)) (C.tI 8 (by decide)) G8 hr B8 pass0 (by rfl) m8))) pss_nil)
            (pss_cons (ps_if (pt_cmpR op_eq (pv 0) pe_int (nomark _)) (pss_one (ps_raise_v H K tk rfl rfl (pe_exv0 (C.ex 9 (by decide)) (C.iC 9 (by decide)) (C.tI 9 (by decide)) G9 hr B9 pass0 (by rfl) m9))) pss_nil)
            (pss_cons (ps_if (pt_cmpR op_eq (pv 0) pe_int (nomark _)) (pss_one (ps_raise_v H K tk rfl rfl (pe_exv0 (C.ex 10 (by decide)) (C.iC 10 (by decide)) (C.tI 10 (by decide)) G10 hr B10 pass0 (by rfl) m10))) pss_nil)
            (pss_cons (ps_if (pt_cmpR op_eq (pv 0) pe_int (nomark _)) (pss_one (ps_raise_v H K tk rfl rfl (pe_exv0 (C.ex 11 (by decide)) (C.iC 11 (by decide)) (C.tI 11 (by decide)) G11 hr B11 pass0 (by rfl) m11))) pss_nil)
            (pss_cons (ps_if (pt_cmpR op_eq (pv 0) pe_int (nomark _)) (pss_one (ps_raise_v H K tk rfl rfl (pe_exv0 (C.ex 12 (by decide)) (C.iC 12 (by decide)) (C.tI 12 (by decide)) G12 hr B12 pass0 (by rfl) m12))) pss_nil)
            (pss_cons (ps_if (pt_cmpR op_eq (pv 0) pe_int (nomark _)) (pss_one (ps_raise_v H K tk rfl rfl (pe_exv0 (C.ex 13 (by decide)) (C.iC 13 (by decide)) (C.tI 13 (by decide)) G13 hr B13 pass0 (by rfl) m13))) pss_nil)
            (pss_one (ps_raise_v H K tk rfl rfl (pe_exv0 (C.ex 14 (by decide)) (C.iC 14 (by decide)) (C.tI 14 (by decide)) G14 hr B14 pass0 (by rfl) m14))))))))))
        (.cons ⟨rfl, by decide, .inl m33⟩ (fun a oe cls d pn hz hf => pss_one (ps_set (i := 1) scPlain.nd rfl (Or.inl rfl) pe_bl)) .nil))
      (pss_one (ps_ret (pv 1)))), ?_⟩
    have fin : ∀ (j : Nat), j < 34 → ∃ b, PySem.W.exmOne K (.ref (c j)) (.ref (c 33)) = some b ∧ b = true := fun j hj => ⟨_, C.te j 33 hj (by decide), by simp⟩
    refine ⟨_, rfl, rfl, _, rfl, ?_⟩
    refine ite2 (fun _ => ?_) (fun _ => ?_)
    · exact ⟨by show 0 ≤ 1000; decide, fun a na => ⟨a, rfl, rfl, a, c 8, rfl, upd_same, na, C.ex 8 (by decide), by
        rw [delH_new na]
        exact ⟨true, (C.te 8 33 (by decide) (by decide)).trans (by simp), fun _ a na => ⟨_, rfl, k⟩, fun z => Bool.noConfusion z⟩⟩⟩
    refine ⟨_, rfl, rfl, _, rfl, ?_⟩
    refine ite2 (fun _ => ?_) (fun _ => ?_)
    · exact ⟨by show 0 ≤ 1000; decide, fun a na => ⟨a, rfl, rfl, a, c 9, rfl, upd_same, na, C.ex 9 (by decide), by
        rw [delH_new na]
        exact ⟨true, (C.te 9 33 (by decide) (by decide)).trans (by simp), fun _ a na => ⟨_, rfl, k⟩, fun z => Bool.noConfusion z⟩⟩⟩
    refine ⟨_, rfl, rfl, _, rfl, ?_⟩
    refine ite2 (fun _ => ?_) (fun _ => ?_)
    · exact ⟨by show 0 ≤ 1000; decide, fun a na => ⟨a, rfl, rfl, a, c 10, rfl, upd_same, na, C.ex 10 (by decide), by
        rw [delH_new na]
        exact ⟨true, (C.te 10 33 (by decide) (by decide)).trans (by simp), fun _ a na => ⟨_, rfl, k⟩, fun z => Bool.noConfusion z⟩⟩⟩
    refine ⟨_, rfl, rfl, _, rfl, ?_⟩
    refine ite2 (fun _ => ?_) (fun _ => ?_)
    · exact ⟨by show 0 ≤ 1000; decide, fun a na => ⟨a, rfl, rfl, a, c 11, rfl, upd_same, na, C.ex 11 (by decide), by
        rw [delH_new na]
        exact ⟨true, (C.te 11 33 (by decide) (by decide)).trans (by simp), fun _ a na => ⟨_, rfl, k⟩, fun z => Bool.noConfusion z⟩⟩⟩
    refine ⟨_, rfl, rfl, _, rfl, ?_⟩
    refine ite2 (fun _ => ?_) (fun _ => ?_)
    · exact ⟨by show 0 ≤ 1000; decide, fun a na => ⟨a, rfl, rfl, a, c 12, rfl, upd_same, na, C.ex 12 (by decide), by
        rw [delH_new na]
        exact ⟨true, (C.te 12 33 (by decide) (by decide)).trans (by simp), fun _ a na => ⟨_, rfl, k⟩, fun z => Bool.noConfusion z⟩⟩⟩
    refine ⟨_, rfl, rfl, _, rfl, ?_⟩
    refine ite2 (fun _ => ?_) (fun _ => ?_)
    · exact ⟨by show 0 ≤ 1000; decide, fun a na => ⟨a, rfl, rfl, a, c 13, rfl, upd_same, na, C.ex 13 (by decide), by
        rw [delH_new na]
        exact ⟨true, (C.te 13 33 (by decide) (by decide)).trans (by simp), fun _ a na => ⟨_, rfl, k⟩, fun z => Bool.noConfusion z⟩⟩⟩
    exact ⟨by show 0 ≤ 1000; decide, fun a na => ⟨a, rfl, rfl, a, c 14, rfl, upd_same, na, C.ex 14 (by decide), by
      rw [delH_new na]
      exact ⟨true, (C.te 14 33 (by decide) (by decide)).trans (by simp), fun _ a na => ⟨_, rfl, k⟩, fun z => Bool.noConfusion z⟩⟩⟩
end
end K9
set_option Elab.async false
set_option linter.all false
set_option maxRecDepth 100000
set_option maxHeartbeats 8000000
/-! Things that are the same through and through: _law_is. -/
namespace K9
open PySem L2
theorem lc_zipL {K : PySem.W.Frag} {a b : Addr} {xs ys : List V} {g : TG} {tt : L2.TT} {te : TE} {vs : List Nat} {τ : L2.St} {H1 : Hp} {D : Addr} {Qd : Hp → Prop} (len : xs.length = ys.length) (Pv : Nat → Hp → Prop) (h0 : Pv 0 (upd H1 D (.lst []))) (hq : ∀ i H, Pv i H → SqL K H a xs ∧ SqL K H b ys)
    (hs : ∀ i x y t H, xs[i]? = some x → ys[i]? = some y → Pv i H → H t = none → g (.ref t) (wipe τ vs) (upd H t (.tup [x, y])) fun σ2 H2 => wipe σ2 vs = wipe τ vs ∧ tt σ2 H2 fun c H3 =>
      if c = true then te σ2 H3 fun z H4 => ∃ acc, H4 D = some (.lst acc) ∧ acc.length < sizeLine ∧ Pv (i + 1) (upd H4 D (.lst (acc ++ [z]))) else Pv (i + 1) H3) (hd : ∀ H, Pv xs.length H → Qd H) :
    ∃ W : Nat → Nat → Hp → Prop, (∃ m, W 0 m (upd H1 D (.lst []))) ∧ ∀ i m H, W i m H →
      ((Itz K a b).stop i H ∧ Qd H) ∨ ((Itz K a b).go i H ∧ ∃ Nx : Hp → Prop, (∀ H', Nx H' → ∃ m', m' < m ∧ W (i + 1) m' H') ∧ ∀ x H', (Itz K a b).yld i H x H' → g x (wipe τ vs) H' fun σ2 H2 => wipe σ2 vs = wipe τ vs ∧ tt σ2 H2 fun c H3 =>
        if c = true then te σ2 H3 fun z H4 => ∃ acc, H4 D = some (.lst acc) ∧ acc.length < sizeLine ∧ Nx (upd H4 D (.lst (acc ++ [z]))) else Nx H3) := by
  refine ⟨fun i m H => m + i = xs.length ∧ Pv i H, ⟨xs.length, rfl, h0⟩, ?_⟩
  rintro i m H ⟨em, p⟩
  obtain ⟨qa, qb⟩ := hq i H p
  cases m with
  | zero =>
    have e : i = xs.length := by omega
    subst e
    exact .inl ⟨⟨xs, ys, qa, qb, .inl (Nat.le_refl _)⟩, hd H p⟩
  | succ k =>
    have la : i < xs.length := by omega
    have lb : i < ys.length := by omega
    have ea : xs[i]? = some xs[i] := List.getElem?_eq_getElem la
    have eb : ys[i]? = some ys[i] := List.getElem?_eq_getElem lb
    refine .inr ⟨⟨xs, ys, _, _, qa, qb, ea, eb⟩, Pv (i + 1), fun H' p' => ⟨k, Nat.lt_succ_self k, by omega, p'⟩, fun v H' y => ?_⟩
    obtain ⟨t, x', y', rfl, nt, rfl, f1, f2⟩ := y
    exact hs i x' y' t H (f1 xs qa) (f2 ys qb) p nt
theorem lc_zipT {K : PySem.W.Frag} {a b : Addr} {xs ys : List V} {g : TG} {tt : L2.TT} {te : TE} {vs : List Nat} {τ : L2.St} {H1 : Hp} {D : Addr} {Qd : Hp → Prop} (len : xs.length = ys.length) (Pv : Nat → Hp → Prop) (h0 : Pv 0 (upd H1 D (.lst []))) (hq : ∀ i H, Pv i H → SqT K H a xs ∧ SqT K H b ys)
    (hs : ∀ i x y t H, xs[i]? = some x → ys[i]? = some y → Pv i H → H t = none → g (.ref t) (wipe τ vs) (upd H t (.tup [x, y])) fun σ2 H2 => wipe σ2 vs = wipe τ vs ∧ tt σ2 H2 fun c H3 =>
      if c = true then te σ2 H3 fun z H4 => ∃ acc, H4 D = some (.lst acc) ∧ acc.length < sizeLine ∧ Pv (i + 1) (upd H4 D (.lst (acc ++ [z]))) else Pv (i + 1) H3) (hd : ∀ H, Pv xs.length H → Qd H) :
    ∃ W : Nat → Nat → Hp → Prop, (∃ m, W 0 m (upd H1 D (.lst []))) ∧ ∀ i m H, W i m H →
      ((RZ.ItzT K a b).stop i H ∧ Qd H) ∨ ((RZ.ItzT K a b).go i H ∧ ∃ Nx : Hp → Prop, (∀ H', Nx H' → ∃ m', m' < m ∧ W (i + 1) m' H') ∧ ∀ x H', (RZ.ItzT K a b).yld i H x H' → g x (wipe τ vs) H' fun σ2 H2 => wipe σ2 vs = wipe τ vs ∧ tt σ2 H2 fun c H3 =>
        if c = true then te σ2 H3 fun z H4 => ∃ acc, H4 D = some (.lst acc) ∧ acc.length < sizeLine ∧ Nx (upd H4 D (.lst (acc ++ [z]))) else Nx H3) := by
  refine ⟨fun i m H => m + i = xs.length ∧ Pv i H, ⟨xs.length, rfl, h0⟩, ?_⟩
  rintro i m H ⟨em, p⟩
  obtain ⟨qa, qb⟩ := hq i H p
  cases m with
  | zero =>
    have e : i = xs.length := by omega
    subst e
    exact .inl ⟨⟨xs, ys, qa, qb, .inl (Nat.le_refl _)⟩, hd H p⟩
  | succ k =>
    have la : i < xs.length := by omega
    have lb : i < ys.length := by omega
    have ea : xs[i]? = some xs[i] := List.getElem?_eq_getElem la
    have eb : ys[i]? = some ys[i] := List.getElem?_eq_getElem lb
    refine .inr ⟨⟨xs, ys, _, _, qa, qb, ea, eb⟩, Pv (i + 1), fun H' p' => ⟨k, Nat.lt_succ_self k, by omega, p'⟩, fun v H' y => ?_⟩
    obtain ⟨t, x', y', rfl, nt, rfl, f1, f2⟩ := y
    exact hs i x' y' t H (f1 xs qa) (f2 ys qb) p nt
theorem op_or {X : Cx} {o : Value → Value → Sem Value} {R S : R2} (h : OpR X o R) (k : OpR X o S) : OpR X o (fun x y H Q => R x y H Q ∨ S x y H Q) := fun pins s σ H x y v u Q I rx ry hh => by
  rcases hh with hh | hh
  · exact h pins s σ H x y v u Q I rx ry hh
  · exact k pins s σ H x y v u Q I rx ry hh
/-- a Table stands at p, its rows at b -/
def tf (m w : Int) (y : V) (n : Int) : List (Str × V) := [("prime", V.int m), ("wide", V.int w), ("rows", y), ("high", V.int n)]
def TabAt (CT : Addr) (S : Hp) (p b : Addr) (m w n : Int) : Prop := ∃ dx, S p = some (.ins CT dx (tf m w (.ref b) n))
def goodD (ks : List (Key × V)) : Prop := ∀ p ∈ ks, valV ks p.1 = some p.2 ∧ flatB p.2 = true
inductive Atom (CT CW : Addr) (S : Hp) : V → Prop
  | non : Atom CT CW S .non
  | bl (b : Bool) : Atom CT CW S (.bl b)
  | int (i : Int) : Atom CT CW S (.int i)
  | str (s : Str) (ok : PyData.strOk s = true) : Atom CT CW S (.str s)
  | dct {a : Addr} {ks : List (Key × V)} (h : S a = some (.dK ks)) (g : goodD ks) : Atom CT CW S (.ref a)
  | tab {p b : Addr} {m w n : Int} {ll : List (List Int)} (h : TabAt CT S p b m w n) (tt : TT S b ll) : Atom CT CW S (.ref p)
  | web {p b : Addr} {m : Int} {ll : List (List Int)} (h : WebAt CW S p m b) (tt : TT S b ll) : Atom CT CW S (.ref p)
theorem Atom.ext {CT CW : Addr} {S S' : Hp} {v : V} (e : Ext S S') (h : Atom CT CW S v) : Atom CT CW S' v := by
  cases h with
  | non => exact .non
  | bl b => exact .bl b
  | int i => exact .int i
  | str s ok => exact .str s ok
  | dct h g => exact .dct (e _ _ h) g
  | tab h tt => exact .tab (h.imp fun _ q => e _ _ q) (tt.ext e)
  | web h tt => exact .web (h.imp fun _ q => e _ _ q) (tt.ext e)
/-- the same, of at most n levels -/
def DS (CT CW : Addr) (S : Hp) : Nat → V → V → Prop
  | 0, _, _ => False
  | n + 1, v, u => (v = u ∧ Atom CT CW S v) ∨ ∃ (a b : Addr) (xs ys : List V), v = .ref a ∧ u = .ref b ∧ ((S a = some (.tup xs) ∧ S b = some (.tup ys)) ∨ (S a = some (.lst xs) ∧ S b = some (.lst ys))) ∧ xs.length ≤ 100 ∧ Paired (DS CT CW S n) xs ys
theorem paired_imp {α β : Type} {R R' : α → β → Prop} (h : ∀ a b, R a b → R' a b) : ∀ {xs : List α} {ys : List β}, Paired R xs ys → Paired R' xs ys
  | _, _, .nil => .nil
  | _, _, .cons x r => .cons (h _ _ x) (paired_imp h r)
theorem paired_get {α β : Type} {R : α → β → Prop} : ∀ {xs : List α} {ys : List β} {i : Nat} {x : α} {y : β}, Paired R xs ys → xs[i]? = some x → ys[i]? = some y → R x y
  | _, _, i, _, _, .nil, h, _ => by simp at h
  | _, _, 0, _, _, .cons r _, h, k => by cases h; cases k; exact r
  | _, _, i + 1, _, _, .cons _ q, h, k => paired_get (i := i) q (by simpa using h) (by simpa using k)
theorem DS.ext {CT CW : Addr} {S S' : Hp} (e : Ext S S') : ∀ {n : Nat} {v u : V}, DS CT CW S n v u → DS CT CW S' n v u
  | n + 1, v, u, h => by
    rcases h with ⟨q, h⟩ | ⟨a, b, xs, ys, q1, q2, h, l, p⟩
    · exact .inl ⟨q, h.ext e⟩
    · refine .inr ⟨a, b, xs, ys, q1, q2, ?_, l, paired_imp (fun _ _ z => DS.ext e z) p⟩
      rcases h with ⟨h1, h2⟩ | ⟨h1, h2⟩
      · exact .inl ⟨e _ _ h1, e _ _ h2⟩
      · exact .inr ⟨e _ _ h1, e _ _ h2⟩
theorem DS.up {CT CW : Addr} {S : Hp} : ∀ {n : Nat} {v u : V}, DS CT CW S n v u → DS CT CW S (n + 1) v u
  | n + 1, v, u, h => by
    rcases h with h | ⟨a, b, xs, ys, q1, q2, h, l, p⟩
    · exact .inl h
    · exact .inr ⟨a, b, xs, ys, q1, q2, h, l, paired_imp (fun _ _ z => DS.up z) p⟩
theorem DS.le {CT CW : Addr} {S : Hp} {n m : Nat} {v u : V} (h : DS CT CW S n v u) (le : n ≤ m) : DS CT CW S m v u := by
  induction le with
  | refl => exact h
  | step _ ih => exact ih.up
structure Kits (K : PySem.W.Frag) (CT CW : Addr) : Prop where
  iT : IsC K CT
  iW : IsC K CW
  b : ∀ s ∈ (["NoneType", "bool", "int", "str", "dict", "tuple", "list"] : List String), PySem.W.kitOne K (.type s) (.ref CT) = some false ∧ PySem.W.kitOne K (.type s) (.ref CW) = some false
  o : ∀ s ∈ (["bool", "tuple", "list"] : List String), PySem.W.kitOne K (.ref CT) (.type s) = some false ∧ PySem.W.kitOne K (.ref CW) (.type s) = some false
  tw : PySem.W.kitOne K (.ref CT) (.ref CW) = some false
  wt : PySem.W.kitOne K (.ref CW) (.ref CT) = some false
  nT : PySem.W.notFirst K CT (.ref CT) = true
  nW : PySem.W.notFirst K CW (.ref CW) = true
theorem kany2 {K : PySem.W.Frag} {t a b : Value} {p q : Bool} (h : PySem.W.kitOne K t a = some p) (k : p = false → PySem.W.kitOne K t b = some q) : PySem.W.kitAny K t [a, b] = some (p || (!p && q)) := by
  unfold PySem.W.kitAny
  rw [h]
  cases p with
  | true => rfl
  | false =>
    show PySem.W.kitAny K t [b] = _
    unfold PySem.W.kitAny
    rw [k rfl]
    cases q <;> rfl
end K9
set_option Elab.async false
set_option linter.all false
set_option maxRecDepth 100000
set_option maxHeartbeats 8000000
namespace K9
open PySem L2
abbrev sTabE : Stmt := inClass (top 43) 1
abbrev sIs : Stmt := top 53
structure TabD (K : PySem.W.Frag) (mg : Str → Option Value) (CT : Addr) : Prop where
  cl : Cls K CT
  n1 : NoAttr K CT "prime"
  n2 : NoAttr K CT "wide"
  n3 : NoAttr K CT "rows"
  n4 : NoAttr K CT "high"
  mgC : mg "Table" = some (.ref CT)
  mo : ∃ t, mg "MOST" = some (.int 12 t)
  pr : ∃ aP, mg "PRIMES" = some (.ref aP) ∧ ∀ H, SqT K H aP [.int 2, .int 3, .int 5, .int 7, .int 11, .int 13]
theorem tf_p (m w : Int) (y : V) (n : Int) : (tf m w y n).lookup ("prime" : Str) = some (.int m) := by rfl
theorem tf_w (m w : Int) (y : V) (n : Int) : (tf m w y n).lookup ("wide" : Str) = some (.int w) := by rfl
theorem tf_r (m w : Int) (y : V) (n : Int) : (tf m w y n).lookup ("rows" : Str) = some y := by rfl
def spEqT (CT : Addr) : Sp := fun vs H Q _ => ∃ (p b : Addr) (m w n : Int) (ll : List (List Int)), vs = [.ref p, .ref p] ∧ TabAt CT H p b m w n ∧ TT H b ll ∧ Q (.bl true) H
section
variable {P : Program} {w : World} {K : PySem.W.Frag} {mg : Str → Option Value} {base : Heap}
theorem scTabE : FnScope ["self", "other"] ["self", "other"] (defScope sTabE) := ⟨rfl, rfl, rfl, by decide +kernel, rfl, by decide +kernel, by decide +kernel⟩
theorem ok_tabE {f CT : Addr} {fd : FuncData} (F : L2.Fun K "__eq__" "Table.__eq__" sTabE f fd) (T : Gb mg) (D : TabD K mg CT) (IT : IsC K CT) : FnOk P w K mg base CX0 1 f fd ["self", "other"] (spEqT CT) := by
  refine F.ok scTabE (fun vs H Q E h => ?_) (fun cdv A outer s H vs Q E hr h => ?_)
  · obtain ⟨p, b, m, w, n, ll, rfl, _⟩ := h
    rfl
  · obtain ⟨p, b, m, w, n, ll, rfl, ⟨dx, hp⟩, tt, k⟩ := h
    refine ⟨_, pss_one (ps_ret (pe_and (pe_callB call_isi (by rfl) T.isi (by decide +kernel) (pa_cons (pv 1) (pa_cons (pe_glob (v := .ref CT) rfl D.mgC rfl) pa_nil)))
      (pe_and (pe_cmpR op_eq (pe_fld (pv 0) rfl) (pe_fld (pv 1) rfl) (nomark _)) (pe_and (pe_cmpR op_eq (pe_fld (pv 0) rfl) (pe_fld (pv 1) rfl) (nomark _)) (pe_one (pe_cmpR (op_eqD hr.units) (pe_fld (pv 0) rfl) (pe_fld (pv 1) rfl) (nomark _))))))), ?_⟩
    refine ⟨_, rfl, _, .ref CT, .ref CT, .ref CT, _, rfl, .own CT, IT.ty hp, kit_same, _, rfl, iteT ?_⟩
    refine ⟨_, rfl, p, CT, dx, _, _, rfl, hp, D.cl, D.n1, tf_p _ _ _ _, _, rfl, p, CT, dx, _, _, rfl, hp, D.cl, D.n1, tf_p _ _ _ _, rfl, _, rfl, ?_⟩
    rw [decide_eq_true (rfl : V.int m = V.int m)]
    refine iteT ⟨_, rfl, p, CT, dx, _, _, rfl, hp, D.cl, D.n2, tf_w _ _ _ _, _, rfl, p, CT, dx, _, _, rfl, hp, D.cl, D.n2, tf_w _ _ _ _, rfl, _, rfl, ?_⟩
    rw [decide_eq_true (rfl : V.int w = V.int w)]
    refine iteT ⟨_, rfl, p, CT, dx, _, _, rfl, hp, D.cl, D.n3, tf_r _ _ _ _, _, rfl, p, CT, dx, _, _, rfl, hp, D.cl, D.n3, tf_r _ _ _ _, _, _, tt.dp, tt.dp, shaped_dT _, shaped_dT _, ?_⟩
    rw [eqv_dT, decide_eq_true rfl]
    exact k
/-- what an atom answers -/
theorem atom_facts {CT CW : Addr} (J : Kits K CT CW) {H : Hp} {v : V} (h : Atom CT CW H v) : ∃ t bb, TyX K H v t ∧ PySem.W.kitAny K t [.type "tuple", .type "list"] = some false ∧ PySem.W.kitOne K t (.type "bool") = some bb ∧
    ((PySem.W.kitAny K t [.ref CT, .ref CW] = some false ∧ ∀ (H' : Hp) (Q : VK), Ext H H' → Q (.bl true) H' → rEqD K v v H' Q ∨ rEqDA v v H' Q) ∨
      (PySem.W.kitAny K t [.ref CT, .ref CW] = some true ∧ ∀ (H' : Hp) (Q : VK), Ext H H' → Q (.bl true) H' → rOwn K CT (spEqT CT) v v H' Q ∨ rOwn K CW (spEqW K CW) v v H' Q)) := by
  have base : ∀ (s : String) (bb : Bool), s ∈ (["NoneType", "bool", "int", "str", "dict", "tuple", "list"] : List String) → kitB s "tuple" = some false → kitB s "list" = some false → kitB s "bool" = some bb → TyX K H v (.type s) →
      (∀ (H' : Hp) (Q : VK), Ext H H' → Q (.bl true) H' → rEqD K v v H' Q ∨ rEqDA v v H' Q) → ∃ t bb, TyX K H v t ∧ PySem.W.kitAny K t [.type "tuple", .type "list"] = some false ∧ PySem.W.kitOne K t (.type "bool") = some bb ∧
    ((PySem.W.kitAny K t [.ref CT, .ref CW] = some false ∧ ∀ (H' : Hp) (Q : VK), Ext H H' → Q (.bl true) H' → rEqD K v v H' Q ∨ rEqDA v v H' Q) ∨
      (PySem.W.kitAny K t [.ref CT, .ref CW] = some true ∧ ∀ (H' : Hp) (Q : VK), Ext H H' → Q (.bl true) H' → rOwn K CT (spEqT CT) v v H' Q ∨ rOwn K CW (spEqW K CW) v v H' Q)) := by
    intro s bb hs k1 k2 k3 ty eq
    obtain ⟨c1, c2⟩ := J.b s hs
    exact ⟨.type s, bb, ty, kany2 (p := false) (q := false) (kit_ty k1) (fun _ => kit_ty k2), kit_ty k3, .inl ⟨kany2 (p := false) (q := false) c1 (fun _ => c2), eq⟩⟩
  cases h with
  | non => exact base "NoneType" false (by simp) (by decide +kernel) (by decide +kernel) (by decide +kernel) (.base .non) fun H' Q e q => .inl ⟨_, _, .non, .non, by decide +kernel, by decide +kernel, q⟩
  | bl b =>
    refine base "bool" true (by simp) (by decide +kernel) (by decide +kernel) (by decide +kernel) (.base (.bl b)) fun H' Q e q => .inl ⟨_, _, .bl b, .bl b, ?_, ?_, ?_⟩
    · cases b <;> decide +kernel
    · cases b <;> decide +kernel
    · cases b <;> exact q
  | int i =>
    refine base "int" false (by simp) (by decide +kernel) (by decide +kernel) (by decide +kernel) (.base (.int i)) fun H' Q e q => .inl ⟨_, _, .int i, .int i, ?_, ?_, ?_⟩
    · simp [SeqAt.shaped, PyData.canLay0, PyData.depth]
    · simp [SeqAt.shaped, PyData.canLay0, PyData.depth]
    · have z : PyData.eqv (.int i) (.int i) = true := by simp [PyData.eqv]
      rw [z]
      exact q
  | str s ok =>
    refine base "str" false (by simp) (by decide +kernel) (by decide +kernel) (by decide +kernel) (.base (.str s)) fun H' Q e q => .inl ⟨_, _, .str s, .str s, ?_, ?_, ?_⟩
    · simp [SeqAt.shaped, PyData.canLay0, PyData.depth, ok]
    · simp [SeqAt.shaped, PyData.canLay0, PyData.depth, ok]
    · have z : PyData.eqv (.str s) (.str s) = true := by simp [PyData.eqv]
      rw [z]
      exact q
  | @dct a ks h g => exact base "dict" false (by simp) (by decide +kernel) (by decide +kernel) (by decide +kernel) (.base (.dK h)) fun H' Q e q => .inr ⟨a, a, ks, ks, rfl, rfl, e _ _ h, e _ _ h, rfl, g, q⟩
  | @tab p b m w n ll h tt =>
    obtain ⟨dx, hp⟩ := id h
    refine ⟨.ref CT, false, J.iT.ty hp, kany2 (p := false) (q := false) (J.o "tuple" (by simp)).1 (fun _ => (J.o "list" (by simp)).1), (J.o "bool" (by simp)).1, .inr ⟨kany2 (p := true) (q := false) kit_same (fun z => nomatch z), fun H' Q e q => .inl ?_⟩⟩
    exact ⟨p, dx, _, .ref CT, rfl, e _ _ hp, J.iT.ty (e _ _ hp), J.nT, p, b, m, w, n, ll, rfl, ⟨dx, e _ _ hp⟩, tt.ext e, ⟨_, rfl⟩, q⟩
  | @web p b m ll h tt =>
    obtain ⟨dx, hp⟩ := id h
    refine ⟨.ref CW, false, J.iW.ty hp, kany2 (p := false) (q := false) (J.o "tuple" (by simp)).2 (fun _ => (J.o "list" (by simp)).2), (J.o "bool" (by simp)).2, .inr ⟨kany2 (p := false) (q := true) J.wt (fun _ => kit_same), fun H' Q e q => .inr ?_⟩⟩
    refine ⟨p, dx, _, .ref CW, rfl, e _ _ hp, J.iW.ty (e _ _ hp), J.nW, p, _, m, b, ll, rfl, ⟨dx, e _ _ hp⟩, tt.ext e, .inl ⟨p, m, b, ll, rfl, ⟨dx, e _ _ hp⟩, tt.ext e, ⟨_, rfl⟩, ?_⟩⟩
    have z : (decide (m = m) && decide (ll = ll)) = true := by simp
    rw [z]
    exact q
theorem scIs : FnScope ["told", "due", "here", "there"] ["told", "due"] (defScope sIs) := ⟨rfl, rfl, rfl, by decide +kernel, rfl, by decide +kernel, by decide +kernel⟩
def spIs (CT CW : Addr) (n : Nat) : Sp := fun vs H Q _ => ∃ v u : V, vs = [v, u] ∧ DS CT CW H n v u ∧ ∀ H' : Hp, Ext H H' → Q (.bl true) H'
theorem ok_is {f CT CW fT fW : Addr} {fd fdT fdW : FuncData} (F : L2.Fun K "_law_is" "_law_is" sIs f fd) (T : Gb mg) (zp : mg "zip" = none) (D : TabD K mg CT) (W : WebC K mg CW) (J : Kits K CT CW) (mI : mg "_law_is" = some (.ref f)) (kI : PySem.W.keepIn K (.ref f) = true) (bI : Binds K fd ["told", "due"] [])
    (GT : FnOk P w K mg base CX0 1 fT fdT ["self", "other"] (spEqT CT)) (bT : Binds K fdT ["self", "other"] []) (hT : PySem.W.findIn K (.ref CT) "__eq__" = some (some (.ref fT))) (iT : PySem.W.isFn K (.ref fT) = true)
    (GW : FnOk P w K mg base CX0 1 fW fdW ["self", "other"] (spEqW K CW)) (bW : Binds K fdW ["self", "other"] []) (hW : PySem.W.findIn K (.ref CW) "__eq__" = some (some (.ref fW))) (iW : PySem.W.isFn K (.ref fW) = true) :
    ∀ n : Nat, FnOk P w K mg base CX0 (n + 2) f fd ["told", "due"] (spIs CT CW n) := by
  intro n
  induction n with
  | zero =>
    refine F.ok scIs (fun vs H Q E h => ?_) (fun cdv A outer s H vs Q E hr h => ?_)
    · obtain ⟨v, u, _, z, _⟩ := h
      exact z.elim
    · obtain ⟨v, u, _, z, _⟩ := h
      exact z.elim
  | succ n ih =>
  have cI : Cal P w K mg base (n + 2) "_law_is" (spIs CT CW n) [] := ⟨⟨f, fd, _, [], ih, mI, kI, bI, .nil⟩⟩
  refine F.ok scIs (fun vs H Q E h => ?_) (fun cdv A outer s H vs Q E hr h => ?_)
  · obtain ⟨v, u, rfl, _⟩ := h
    rfl
  · obtain ⟨v, u, rfl, ds, k⟩ := h
    have hr1 : Room 1 _ := hr.mono (by omega)
    have eqs : OpR _ (compareOp .Eq) (fun x y H Q => rOwn K CT (spEqT CT) x y H Q ∨ rOwn K CW (spEqW K CW) x y H Q) := op_or (op_own (X := (cxOf CX0 P w K mg base ["told", "due", "here", "there"] "_law_is" (defScope sIs) f cdv A outer s H E).nox) GT hT iT bT hr1) (op_own GW hW iW bW hr1)
    have eqd : OpR _ (compareOp .Eq) (fun x y H Q => rEqD K x y H Q ∨ rEqDA x y H Q) := op_or (op_eqD (X := (cxOf CX0 P w K mg base ["told", "due", "here", "there"] "_law_is" (defScope sIs) f cdv A outer s H E).nox) hr.units) (op_eq_dictA (Nat.lt_of_le_of_lt (Nat.le_add_right _ _) hr.units))
    refine ⟨_, pss_cons (ps_if (pt_val (pe_callB call_isiT (by rfl) T.isi (by decide +kernel) (pa_cons (pv 1) (pa_cons (pe_tup (pa_cons (pe_bltn (v := .ty "tuple") (by rfl) T.tup (by decide +kernel) rfl) (pa_cons (pe_bltn (v := .ty "list") (by rfl) T.list (by decide +kernel) rfl) pa_nil))) pa_nil))))
        (pss_cons (ps_if (pt_cmpR op_ne (pe_callB call_isi (by rfl) T.isi (by decide +kernel) (pa_cons (pv 0) (pa_cons (pe_bltn (v := .ty "tuple") (by rfl) T.tup (by decide +kernel) rfl) pa_nil))) (pe_callB call_isi (by rfl) T.isi (by decide +kernel) (pa_cons (pv 1) (pa_cons (pe_bltn (v := .ty "tuple") (by rfl) T.tup (by decide +kernel) rfl) pa_nil))) (nomark _)) (pss_one (ps_ret pe_bl)) pss_nil)
        (pss_cons (ps_if (PW.pt (pw_or (pt_not (pt_val (pe_callB call_isiT (by rfl) T.isi (by decide +kernel) (pa_cons (pv 0) (pa_cons (pe_tup (pa_cons (pe_bltn (v := .ty "tuple") (by rfl) T.tup (by decide +kernel) rfl) (pa_cons (pe_bltn (v := .ty "list") (by rfl) T.list (by decide +kernel) rfl) pa_nil))) pa_nil)))))
            (pw_or1 (pt_cmpR op_ne (pe_callB call_len_seq (by rfl) T.len PySem.boot_len (pa_cons (pv 0) pa_nil)) (pe_callB call_len_seq (by rfl) T.len PySem.boot_len (pa_cons (pv 1) pa_nil)) (nomark _))))) (pss_one (ps_ret pe_bl)) pss_nil)
        (pss_one (ps_ret (pe_callB (cr_all rfl) (by rfl) T.all (by decide +kernel) (pa_cons (pe_lc (own := [("here", 2), ("there", 3)]) (g := gTup K 2 (gCons (gName 2) (gCons (gName 3) gNil))) (tt := tYes) rfl scIs.nd (RZ.pi_zipA (by rfl) zp (pa_cons (pv 0) (pa_cons (pv 1) pa_nil))) (blkOk_by (N := ["told", "due", "here", "there"]) (sc := defScope sIs) (by decide +kernel))
          (fun _ _ _ _ _ => pg_tup rfl (pgs_cons (pg_name (i := 2) scIs.nd rfl (Or.inl rfl)) (pgs_cons (pg_name (i := 3) scIs.nd rfl (Or.inl rfl)) pgs_nil))) (fun _ _ _ _ _ => pts_nil) (fun _ _ _ _ _ => C8.pe_c cI hr (Nat.le_refl _) (by rfl) (pa_cons (pv 2) (pa_cons (pv 3) pa_nil)))) pa_nil)))))) pss_nil)
      (pss_cons (ps_if (pt_val (pe_callB call_isiT (by rfl) T.isi (by decide +kernel) (pa_cons (pv 1) (pa_cons (pe_tup (pa_cons (pe_glob (v := .ref CT) rfl D.mgC rfl) (pa_cons (pe_glob (v := .ref CW) rfl W.mgC rfl) pa_nil))) pa_nil))))
        (pss_one (ps_ret (pe_and (pe_callB call_isiT (by rfl) T.isi (by decide +kernel) (pa_cons (pv 0) (pa_cons (pe_tup (pa_cons (pe_glob (v := .ref CT) rfl D.mgC rfl) (pa_cons (pe_glob (v := .ref CW) rfl W.mgC rfl) pa_nil))) pa_nil))) (pe_one (pe_cmpR eqs (pv 0) (pv 1) (nomark _)))))) pss_nil)
      (pss_one (ps_ret (pe_and (pe_cmpR op_eq (pe_callB call_isi (by rfl) T.isi (by decide +kernel) (pa_cons (pv 0) (pa_cons (pe_bltn (v := .ty "bool") (by rfl) T.bool (by decide +kernel) rfl) pa_nil))) (pe_callB call_isi (by rfl) T.isi (by decide +kernel) (pa_cons (pv 1) (pa_cons (pe_bltn (v := .ty "bool") (by rfl) T.bool (by decide +kernel) rfl) pa_nil))) (nomark _))
        (pe_one (pe_cmpR eqd (pv 0) (pv 1) (nomark _))))))), ?_⟩
    -- isinstance(due, (tuple, list))
    refine ⟨_, rfl, by show 2 ≤ sizeLine; decide, fun t0 n0 => ?_⟩
    have e0 : Ext H (upd H t0 (.tup [.ty "tuple", .ty "list"])) := Ext.upd n0
    have g0 : (upd H t0 (.tup [.ty "tuple", .ty "list"])) t0 = some (.tup [.ty "tuple", .ty "list"]) := upd_same
    generalize upd H t0 (.tup [.ty "tuple", .ty "list"]) = H0 at *
    rcases ds with ⟨rfl, at0⟩ | ⟨a, b, xs, ys, rfl, rfl, hab, len, pr⟩
    · obtain ⟨t, bb, ty, k1, k2, kk⟩ := atom_facts J at0
      refine ⟨v, t0, _, t, _, false, rfl, g0, .cons (.ty _) (.cons (.ty _) .nil), TyX.ext ty e0, k1, _, rfl, iteF ?_⟩
      refine ⟨_, rfl, by show 2 ≤ sizeLine; decide, fun t1 n1 => ?_⟩
      have e1 : Ext H (upd H0 t1 (.tup [.ref CT, .ref CW])) := e0.trans (Ext.upd n1)
      have g1 : (upd H0 t1 (.tup [.ref CT, .ref CW])) t1 = some (.tup [.ref CT, .ref CW]) := upd_same
      generalize upd H0 t1 (.tup [.ref CT, .ref CW]) = H1 at *
      rcases kk with ⟨kc, eq⟩ | ⟨kc, eq⟩
      · refine ⟨v, t1, _, t, _, false, rfl, g1, .cons (.own _) (.cons (.own _) .nil), TyX.ext ty e1, kc, _, rfl, iteF ?_⟩
        refine ⟨_, rfl, v, .ty "bool", t, .type "bool", bb, rfl, .ty _, TyX.ext ty e1, k2, _, rfl, v, .ty "bool", t, .type "bool", bb, rfl, .ty _, TyX.ext ty e1, k2, rfl, _, rfl, ?_⟩
        rw [decide_eq_true rfl]
        exact iteT ⟨_, rfl, _, rfl, eq H1 _ e1 (k _ e1)⟩
      · refine ⟨v, t1, _, t, _, true, rfl, g1, .cons (.own _) (.cons (.own _) .nil), TyX.ext ty e1, kc, _, rfl, iteT ?_⟩
        refine ⟨_, rfl, by show 2 ≤ sizeLine; decide, fun t2 n2 => ?_⟩
        have e2 : Ext H (upd H1 t2 (.tup [.ref CT, .ref CW])) := e1.trans (Ext.upd n2)
        refine ⟨v, t2, _, t, _, true, rfl, upd_same, .cons (.own _) (.cons (.own _) .nil), TyX.ext ty e2, kc, _, rfl, iteT ?_⟩
        exact ⟨_, rfl, _, rfl, eq _ _ e2 (k _ e2)⟩
    · have tys : ∃ s : String, TyX K H (.ref a) (.type s) ∧ TyX K H (.ref b) (.type s) ∧ PySem.W.kitAny K (.type s) [.type "tuple", .type "list"] = some true ∧ ∃ c, PySem.W.kitOne K (.type s) (.type "tuple") = some c := by
        rcases hab with ⟨h1, h2⟩ | ⟨h1, h2⟩
        · exact ⟨"tuple", .base (.tup h1), .base (.tup h2), kany2 (p := true) (q := true) (kit_ty (by decide +kernel)) (fun z => nomatch z), true, kit_ty (by decide +kernel)⟩
        · exact ⟨"list", .base (.lst h1), .base (.lst h2), kany2 (p := false) (q := true) (kit_ty (by decide +kernel)) (fun _ => kit_ty (by decide +kernel)), false, kit_ty (by decide +kernel)⟩
      obtain ⟨s', tA, tB, k1, c, k2⟩ := tys
      refine ⟨.ref b, t0, _, .type s', _, true, rfl, g0, .cons (.ty _) (.cons (.ty _) .nil), TyX.ext tB e0, k1, _, rfl, iteT ?_⟩
      refine ⟨_, rfl, .ref a, .ty "tuple", .type s', .type "tuple", c, rfl, .ty _, TyX.ext tA e0, k2, _, rfl, .ref b, .ty "tuple", .type s', .type "tuple", c, rfl, .ty _, TyX.ext tB e0, k2, rfl, _, rfl, iteNS rfl ?_⟩
      refine ⟨_, rfl, by show 2 ≤ sizeLine; decide, fun t1 n1 => ?_⟩
      have e1 : Ext H (upd H0 t1 (.tup [.ty "tuple", .ty "list"])) := e0.trans (Ext.upd n1)
      have g1 : (upd H0 t1 (.tup [.ty "tuple", .ty "list"])) t1 = some (.tup [.ty "tuple", .ty "list"]) := upd_same
      generalize upd H0 t1 (.tup [.ty "tuple", .ty "list"]) = H1 at *
      refine ⟨.ref a, t1, _, .type s', _, true, rfl, g1, .cons (.ty _) (.cons (.ty _) .nil), TyX.ext tA e1, k1, _, rfl, iteF ?_⟩
      have sq : (SqL K H1 a xs ∨ SqT K H1 a xs) ∧ (SqL K H1 b ys ∨ SqT K H1 b ys) := by
        rcases hab with ⟨h1, h2⟩ | ⟨h1, h2⟩
        · exact ⟨.inr (SqT.of (e1 _ _ h1)), .inr (SqT.of (e1 _ _ h2))⟩
        · exact ⟨.inl (SqL.of (e1 _ _ h1)), .inl (SqL.of (e1 _ _ h2))⟩
      have ln : xs.length = ys.length := Paired.length pr
      refine ⟨_, rfl, a, xs, rfl, sq.1, _, rfl, b, ys, rfl, sq.2, rfl, _, rfl, iteNS (by rw [ln]) ?_⟩
      have turn : ∀ (D : Addr) (nD : H1 D = Option.none) (i : Nat) (x y : V) (t : Addr) (H' : Hp) (R : V → Hp → Prop) (N : Hp → Prop), xs[i]? = some x → ys[i]? = some y → (Ext H1 H' ∧ H' D = some (.lst (List.replicate i (.bl true)))) → H' t = Option.none → (∀ H2, Ext H1 H2 → H2 D = some (.lst (List.replicate i (.bl true))) → R (.bl true) H2) →
          DS CT CW (upd H' t (.tup [x, y])) n x y ∧ ∀ H2, Ext (upd H' t (.tup [x, y])) H2 → R (.bl true) H2 := by
        intro D nD i x y t H' R N hx hy ⟨ex, hD⟩ nt kR
        have eT : Ext H' (upd H' t (.tup [x, y])) := Ext.upd nt
        exact ⟨(paired_get pr hx hy).ext (e1.trans (ex.trans eT)), fun H2 e2 => kR H2 (ex.trans (eT.trans e2)) ((eT.trans e2) _ _ hD)⟩
      have lt : xs.length < sizeLine := small1000 (by omega)
      have fin : ∀ (D : Addr) (H' : Hp), Ext H1 H' → H' D = some (.lst (List.replicate xs.length (.bl true))) → ∃ (a' : Addr) (bs : List Bool), [V.ref D] = [V.ref a'] ∧ SqL K H' a' (bs.map V.bl) ∧ Q (.bl (bs.all id)) H' := by
        intro D H' ex hD
        refine ⟨D, List.replicate xs.length true, rfl, SqL.of (by rw [hD, List.map_replicate]), ?_⟩
        have z : (List.replicate xs.length true).all id = true := by simp
        rw [z]
        exact k _ (e1.trans ex)
      have push : ∀ (D : Addr) (nD : H1 D = Option.none) (i : Nat) (H2 : Hp), i < xs.length → Ext H1 H2 → H2 D = some (.lst (List.replicate i (.bl true))) → ∃ acc, H2 D = some (.lst acc) ∧ acc.length < sizeLine ∧ Ext H1 (upd H2 D (.lst (acc ++ [.bl true]))) ∧ (upd H2 D (.lst (acc ++ [.bl true]))) D = some (.lst (List.replicate (i + 1) (.bl true))) := by
        intro D nD i H2 hi ex hD
        refine ⟨_, hD, by rw [List.length_replicate]; omega, fun b' o eo => by rw [upd_ne (ne_of_none eo nD)]; exact ex _ _ eo, by rw [upd_same, ← List.replicate_succ']⟩
      rcases hab with ⟨h1, h2⟩ | ⟨h1, h2⟩
      · refine ⟨_, rfl, _, rfl, a, b, xs, ys, rfl, .inr ⟨SqT.of (e1 _ _ h1), SqT.of (e1 _ _ h2), fun D nD => lc_zipT (K := K) (a := a) (b := b) (xs := xs) (ys := ys) ln (fun i H' => Ext H1 H' ∧ H' D = some (.lst (List.replicate i (.bl true)))) ⟨Ext.upd nD, upd_same⟩ (fun i H' p => ⟨SqT.of (p.1 _ _ (e1 _ _ h1)), SqT.of (p.1 _ _ (e1 _ _ h2))⟩) ?_ ?_⟩⟩
        · intro i x y t H' hx hy p nt
          have hi := (List.getElem?_eq_some_iff.mp hx).1
          refine ⟨t, _, rfl, SqT.of upd_same, rfl, _, _, rfl, _, _, rfl, rfl, rfl, tyes_in ?_⟩
          obtain ⟨d1, d2⟩ := turn D nD i x y t H' (fun z H2 => ∃ acc, H2 D = some (.lst acc) ∧ acc.length < sizeLine ∧ Ext H1 (upd H2 D (.lst (acc ++ [z]))) ∧ (upd H2 D (.lst (acc ++ [z]))) D = some (.lst (List.replicate (i + 1) (.bl true)))) (fun _ => True) hx hy p nt (fun H2 ex hD => push D nD i H2 hi ex hD)
          exact ⟨_, rfl, _, rfl, x, y, rfl, d1, d2⟩
        · intro H' p
          exact fin D H' p.1 p.2
      · refine ⟨_, rfl, _, rfl, a, b, xs, ys, rfl, .inl ⟨SqL.of (e1 _ _ h1), SqL.of (e1 _ _ h2), fun D nD => lc_zipL (K := K) (a := a) (b := b) (xs := xs) (ys := ys) ln (fun i H' => Ext H1 H' ∧ H' D = some (.lst (List.replicate i (.bl true)))) ⟨Ext.upd nD, upd_same⟩ (fun i H' p => ⟨SqL.of (p.1 _ _ (e1 _ _ h1)), SqL.of (p.1 _ _ (e1 _ _ h2))⟩) ?_ ?_⟩⟩
        · intro i x y t H' hx hy p nt
          have hi := (List.getElem?_eq_some_iff.mp hx).1
          refine ⟨t, _, rfl, SqT.of upd_same, rfl, _, _, rfl, _, _, rfl, rfl, rfl, tyes_in ?_⟩
          obtain ⟨d1, d2⟩ := turn D nD i x y t H' (fun z H2 => ∃ acc, H2 D = some (.lst acc) ∧ acc.length < sizeLine ∧ Ext H1 (upd H2 D (.lst (acc ++ [z]))) ∧ (upd H2 D (.lst (acc ++ [z]))) D = some (.lst (List.replicate (i + 1) (.bl true)))) (fun _ => True) hx hy p nt (fun H2 ex hD => push D nD i H2 hi ex hD)
          exact ⟨_, rfl, _, rfl, x, y, rfl, d1, d2⟩
        · intro H' p
          exact fin D H' p.1 p.2
end
end K9
set_option Elab.async false
set_option linter.all false
set_option maxRecDepth 100000
set_option maxHeartbeats 8000000
/-! The hand, the odd things, the deep things. -/
namespace K9
open PySem L2
abbrev sPrime : Stmt := top 39
abbrev sCol : Stmt := top 40
abbrev sTabI : Stmt := inClass (top 43) 0
abbrev sPot : Stmt := top 50
abbrev sOdd : Stmt := top 54
abbrev sThing : Stmt := top 55
/-- what is tracked but for the pot -/
def Off (a : Addr) (H : Hp) : Hp := fun b => if b = a then none else H b
theorem off_at {a b : Addr} {H : Hp} (h : b ≠ a) : Off a H b = H b := if_neg h
theorem off_some {a b : Addr} {H : Hp} {o : HO} (h : Off a H b = some o) : b ≠ a ∧ H b = some o := by
  unfold Off at h
  by_cases e : b = a
  · rw [if_pos e] at h; cases h
  · rw [if_neg e] at h; exact ⟨e, h⟩
theorem Off.ext {a : Addr} {H H' : Hp} (g : ∀ b o, b ≠ a → H b = some o → H' b = some o) : Ext (Off a H) (Off a H') := fun b o h => by
  obtain ⟨n, e⟩ := off_some h
  rw [off_at n]
  exact g b o n e
theorem Go.off {a : Addr} {H H' : Hp} (g : Go a H H') : Ext (Off a H) (Off a H') := Off.ext g.2
theorem Go.of_ext {a : Addr} {H H' : Hp} (p : PotAt H a) (e : Ext H H') : Go a H H' := by
  obtain ⟨c, ns, i, z, s, n, h1, h2⟩ := p
  exact ⟨⟨c, ns, i, z, s, n, e _ _ h1, e _ _ h2⟩, fun b o _ h => e b o h, fun c xs h => ⟨xs, e _ _ h⟩⟩
theorem pot_no {H : Hp} {a b : Addr} {o : HO} (p : PotAt H a) (h : H b = some o) (no : ∀ xs, o ≠ .lst xs) : b ≠ a := by
  obtain ⟨c, ns, i, z, s, n, h1, h2⟩ := p
  intro e
  rw [e, h1] at h
  cases h
  exact no _ rfl
/-! ### kinds of things -/
section
variable {K : PySem.W.Frag} {S : Hp} {n : Nat}
theorem Th.plain {x : V} {t : Value} (ty : TyX K S x t) (h1 : PySem.W.kitOne K t (.type "int") = some (isI x || isB x)) (h2 : PySem.W.kitOne K t (.type "bool") = some (isB x)) (h3 : PySem.W.kitOne K t (.type "tuple") = some false)
    (h : ∀ a, x = .ref a → ∃ o, S a = some o ∧ ∀ xs, o ≠ .tup xs) : Th K S n x := by
  unfold Th
  exact ⟨t, ty, h1, h2, .inl ⟨h3, h⟩⟩
theorem Th.non : Th K S n .non := Th.plain (.base .non) (kit_ty (by decide +kernel)) (kit_ty (by decide +kernel)) (kit_ty (by decide +kernel)) fun _ h => nomatch h
theorem Th.bl (b : Bool) : Th K S n (.bl b) := Th.plain (.base (.bl b)) (kit_ty (show kitB "bool" "int" = some true by decide +kernel)) (kit_ty (show kitB "bool" "bool" = some true by decide +kernel)) (kit_ty (by decide +kernel)) fun _ h => nomatch h
theorem Th.int (i : Int) : Th K S n (.int i) := Th.plain (.base (.int i)) (kit_ty (show kitB "int" "int" = some true by decide +kernel)) (kit_ty (show kitB "int" "bool" = some false by decide +kernel)) (kit_ty (by decide +kernel)) fun _ h => nomatch h
theorem Th.str (z : Str) : Th K S n (.str z) := Th.plain (.base (.str z)) (kit_ty (show kitB "str" "int" = some false by decide +kernel)) (kit_ty (show kitB "str" "bool" = some false by decide +kernel)) (kit_ty (by decide +kernel)) fun _ h => nomatch h
theorem Th.lst {p : Addr} {xs : List V} (h : S p = some (.lst xs)) : Th K S n (.ref p) :=
  Th.plain (.base (.lst h)) (kit_ty (show kitB "list" "int" = some false by decide +kernel)) (kit_ty (show kitB "list" "bool" = some false by decide +kernel)) (kit_ty (by decide +kernel)) fun a e => by cases e; exact ⟨_, h, fun _ z => nomatch z⟩
theorem Th.dct {p : Addr} {kvs : List (Key × V)} (h : S p = some (.dK kvs)) : Th K S n (.ref p) :=
  Th.plain (.base (.dK h)) (kit_ty (show kitB "dict" "int" = some false by decide +kernel)) (kit_ty (show kitB "dict" "bool" = some false by decide +kernel)) (kit_ty (by decide +kernel)) fun a e => by cases e; exact ⟨_, h, fun _ z => nomatch z⟩
theorem Th.tup {p : Addr} {xs : List V} (h : S p = some (.tup xs)) (it : ∀ y ∈ xs, Th K S n y) : Th K S (n + 1) (.ref p) := by
  unfold Th
  exact ⟨_, .base (.tup h), kit_ty (show kitB "tuple" "int" = some false by decide +kernel), kit_ty (show kitB "tuple" "bool" = some false by decide +kernel), .inr ⟨kit_ty (by decide +kernel), p, xs, rfl, h, it⟩⟩
end
def spPrime2 : Sp := fun vs H Q _ => vs = [.int 2] ∧ Q (.bl true) H
def spAny : Sp := fun vs H Q _ => ∃ (a l : Addr) (xs : List V), vs = [.ref a, .ref l] ∧ PotAt H a ∧ l ≠ a ∧ H l = some (.lst xs) ∧ xs ≠ [] ∧ xs.length ≤ 1000 ∧ ∀ (x : V) (H' : Hp), x ∈ xs → Go a H H' → Q x H'
/-- what a Table's making leaves -/
theorem tab_ext {H H' : Hp} {o d : Addr} {CT : Addr} (no : H o = none) (nd : H d = none) (kp : ∀ c u, c ≠ o → (upd (upd H d (.own o)) o (.ins CT d [])) c = some u → H' c = some u) : Ext H H' := fun c u h => by
  have h1 := ne_of_none h no
  have h2 := ne_of_none h nd
  exact kp c u h1 (by rw [upd_ne h1, upd_ne h2]; exact h)
def spPot (K : PySem.W.Frag) : Sp := fun vs H Q _ => ∃ (s : Addr) (ns : List Int), vs = [.ref s] ∧ SqL K H s (ns.map V.int) ∧ ns.length ≤ 63 ∧ ∀ (r : Addr) (H' : Hp), Ext H H' → PotAt H' r → Q (.ref r) H'
def spCol : Sp := fun vs H Q _ => ∃ c : Addr, vs = [.int 2, .int 1, .ref c] ∧ H c = some (.tup [.int 1]) ∧ ∀ H' : Hp, Ext H H' → Q (.bl true) H'
def spTab1 (CT : Addr) : Sp := fun vs H Q _ => ∃ (p b c dx : Addr), vs = [.ref p, .int 2, .int 1, .ref b] ∧ H p = some (.ins CT dx []) ∧ H b = some (.tup [.ref c]) ∧ H c = some (.tup [.int 1]) ∧
  ∀ H' : Hp, H' p = some (.ins CT dx (tf 2 1 (.ref b) 1)) → (∀ x o, x ≠ p → H x = some o → H' x = some o) → Q .non H'
def spWeb1 (CW : Addr) : Sp := fun vs H Q _ => ∃ (p b c dx : Addr), vs = [.ref p, .int 2, .ref b] ∧ H p = some (.ins CW dx []) ∧ H b = some (.tup [.ref c]) ∧ H c = some (.tup [.int 0, .int 1]) ∧
  ∀ H' : Hp, H' p = some (.ins CW dx (wf 2 (.ref b))) → (∀ x o, x ≠ p → H x = some o → H' x = some o) → Q .non H'
section
variable {P : Program} {w : World} {K : PySem.W.Frag} {mg : Str → Option Value} {base : Heap}
theorem scPrime : FnScope ["thing"] ["thing"] (defScope sPrime) := ⟨rfl, rfl, rfl, by decide +kernel, rfl, by decide +kernel, by decide +kernel⟩
theorem ok_prime {f CT : Addr} {fd : FuncData} (F : L2.Fun K "is_prime" "is_prime" sPrime f fd) (D : TabD K mg CT) (cI : Cal P w K mg base 1 "is_integer" (spInteger K) []) : FnOk P w K mg base CX0 2 f fd ["thing"] spPrime2 := by
  obtain ⟨aP, hP, sq⟩ := D.pr
  refine F.ok scPrime (fun vs H Q E h => ?_) (fun cdv A outer s H vs Q E hr h => ?_)
  · obtain ⟨rfl, _⟩ := h
    rfl
  · obtain ⟨rfl, k⟩ := h
    refine ⟨_, pss_one (ps_ret (pe_and (C8.pe_c cI hr (by decide) (by rfl) (pa_cons (pv 0) pa_nil)) (pe_one (pe_cmpR op_in_seq (pv 0) (pe_glob (v := .ref aP) rfl hP rfl) (by rfl))))), ?_⟩
    refine ⟨_, rfl, _, rfl, Th.int 2, _, rfl, ?_⟩
    exact iteT ⟨_, rfl, aP, _, rfl, .inr (sq H), rfl, rfl, k⟩
theorem scAny : FnScope ["hand", "things"] ["hand", "things"] (defScope sAny) := ⟨rfl, rfl, rfl, by decide +kernel, rfl, by decide +kernel, by decide +kernel⟩
theorem ok_any {f : Addr} {fd : FuncData} (F : L2.Fun K "_law_some" "_law_some" sAny f fd) (T : Gb mg) (cD : Cal P w K mg base 1 "_law_draw" spDraw []) : FnOk P w K mg base CX0 2 f fd ["hand", "things"] spAny := by
  refine F.ok scAny (fun vs H Q E h => ?_) (fun cdv A outer s H vs Q E hr h => ?_)
  · obtain ⟨a, l, xs, rfl, _⟩ := h
    rfl
  · obtain ⟨a, l, xs, rfl, pot, nl, hl, ne, len, k⟩ := h
    refine ⟨_, pss_one (ps_ret (pe_ix ix_list (pv 1) (C8.pe_c cD hr (by decide) (by rfl) (pa_cons (pv 0) (pa_cons (pe_callB call_len_seq (by rfl) T.len PySem.boot_len (pa_cons (pv 1) pa_nil)) pa_nil))) (fun _ _ => rfl))), ?_⟩
    have pos : 0 < xs.length := List.length_pos_iff.mpr ne
    refine ⟨_, rfl, _, rfl, _, rfl, l, xs, rfl, .inl (SqL.of hl), a, _, rfl, pot, by omega, by omega, fun r H' h0 hlt go => ?_⟩
    have lt : r.toNat < xs.length := by omega
    refine ⟨l, xs, r, xs[r.toNat], rfl, rfl, SqL.of (go.2 _ _ nl hl), at_of (j := r.toNat) (by omega) (List.getElem?_eq_getElem lt), ?_⟩
    exact k _ _ (List.getElem_mem lt) go
theorem scPot : FnScope ["script", "cells", "cell"] ["script"] (defScope sPot) := ⟨rfl, rfl, rfl, by decide +kernel, rfl, by decide +kernel, by decide +kernel⟩
theorem ok_pot {f : Addr} {fd : FuncData} (F : L2.Fun K "_law_hand" "_law_hand" sPot f fd) (T : Gb mg) : FnOk P w K mg base CX0 1 f fd ["script"] (spPot K) := by
  refine F.ok scPot (fun vs H Q E h => ?_) (fun cdv A outer s H vs Q E hr h => ?_)
  · obtain ⟨a, ns, rfl, _⟩ := h
    rfl
  · obtain ⟨a, ns, rfl, hS, hlen, k⟩ := h
    refine ⟨_, pss_cons (ps_setLc (i := 1) (own := [("cell", 2)]) (g := gName 2) (tt := tYes) rfl scPot.nd rfl rfl (sw_true rfl rfl rfl (by decide +kernel)) (pi_list (pe_slice sl_list (pv 0) po_none (po_some pe_int))) (blkOk_by (N := ["script", "cells", "cell"]) (sc := defScope sPot) (by decide +kernel))
        (fun _ _ _ _ _ => pg_name (i := 2) scPot.nd rfl (Or.inl rfl)) (fun _ _ _ _ _ => pts_nil) (fun _ _ _ _ _ => pe_callB call_abs (by rfl) T.abs (by decide +kernel) (pa_cons (pe_callTy call_int1 (by rfl) T.int (by decide +kernel) (pa_cons (pv 2) pa_nil)) pa_nil)))
      (pss_one (ps_ret (pe_lst (pa_cons (pv 1) (pa_cons pe_int (pa_cons pe_int (pa_cons (pe_op op_add pe_int (pe_callB call_len_seq (by rfl) T.len PySem.boot_len (pa_cons (pv 1) pa_nil))) (pa_cons pe_int pa_nil)))))))), ?_⟩
    have all : ∀ y ∈ cutV (ns.map V.int) Option.none (some 63), ∃ i, y = V.int i := fun y hy => by
      have hy := List.mem_of_mem_drop (List.mem_of_mem_take hy)
      obtain ⟨i, _, rfl⟩ := List.mem_map.mp hy
      exact ⟨i, rfl⟩
    have cl : (cutV (ns.map V.int) Option.none (some 63)).length ≤ 63 := Nat.le_trans (cutV_length _ _ _) (by rw [List.length_map]; exact hlen)
    refine ⟨_, rfl, 63, rfl, a, _, rfl, hS, fun l nl => ?_⟩
    generalize cutV (ns.map V.int) Option.none (some 63) = xs at *
    refine ⟨l, rfl, ⟨_, SqL.of upd_same⟩, fun D nD => lc_list (K := K) (a := l) (xs := xs) (fun i H' => ∃ cs : List Int, H' = upd (upd H l (.lst xs)) D (.lst (cs.map V.int)) ∧ cs.length = i) ⟨[], rfl, rfl⟩ (fun i H' _ ⟨cs, e, _⟩ => by rw [e]; exact SqL.of (Ext.upd nD _ _ upd_same)) ?_ ?_⟩
    · rintro i y H' hy ⟨cs, rfl, hc⟩
      obtain ⟨z, rfl⟩ := all y (List.mem_of_getElem? hy)
      have hi := (List.getElem?_eq_some_iff.mp hy).1
      refine ⟨rfl, tyes_in ⟨_, rfl, .inl ⟨_, rfl, _, rfl, ?_⟩⟩⟩
      refine ⟨_, upd_same, by rw [List.length_map]; exact small1000 (by omega), cs ++ [if z < 0 then -z else z], ?_, by rw [List.length_append, hc]; rfl⟩
      rw [upd_upd, List.map_append]
      rfl
    · rintro H' ⟨cs, rfl, hc⟩
      have e1 : Ext H (upd (upd H l (.lst xs)) D (.lst (cs.map V.int))) := (Ext.upd nl).trans (Ext.upd nD)
      refine ⟨_, rfl, _, rfl, D, _, rfl, .inl (SqL.of upd_same), _, _, rfl, rfl, by show 5 ≤ sizeLine; decide, fun r nr => ?_⟩
      exact k r _ (e1.trans (Ext.upd nr)) ⟨D, cs, 0, 0, _, 0, upd_same, by rw [upd_ne (ne_of_none upd_same nr), upd_same]⟩
theorem scCol : FnScope ["prime", "length", "thing", "item"] ["prime", "length", "thing"] (defScope sCol) := ⟨rfl, rfl, rfl, by decide +kernel, rfl, by decide +kernel, by decide +kernel⟩
theorem ok_col {f : Addr} {fd : FuncData} (F : L2.Fun K "is_column" "is_column" sCol f fd) (T : Gb mg) (cN : Cal P w K mg base 2 "is_number" (spNumber K) []) : FnOk P w K mg base CX0 3 f fd ["prime", "length", "thing"] spCol := by
  refine F.ok scCol (fun vs H Q E h => ?_) (fun cdv A outer s H vs Q E hr h => ?_)
  · obtain ⟨c, rfl, _⟩ := h
    rfl
  · obtain ⟨c, rfl, hc, k⟩ := h
    refine ⟨_, pss_cons (ps_if (PW.pt (pw_or (pt_not (pt_val (pe_callB call_isi (by rfl) T.isi (by decide +kernel) (pa_cons (pv 2) (pa_cons (pe_bltn (v := .ty "tuple") (by rfl) T.tup (by decide +kernel) rfl) pa_nil)))))
        (pw_or1 (pt_cmpR op_ne (pe_callB call_len_seq (by rfl) T.len PySem.boot_len (pa_cons (pv 2) pa_nil)) (pv 1) (nomark _))))) (pss_one (ps_ret pe_bl)) pss_nil)
      (pss_one (ps_ret (pe_callB (cr_all rfl) (by rfl) T.all (by decide +kernel) (pa_cons (pe_lc (own := [("item", 3)]) (g := gName 3) (tt := tYes) rfl scCol.nd (pi_tup (pv 2)) (blkOk_by (N := ["prime", "length", "thing", "item"]) (sc := defScope sCol) (by decide +kernel)) (fun _ _ _ _ _ => pg_name (i := 3) scCol.nd rfl (Or.inl rfl)) (fun _ _ _ _ _ => pts_nil)
        (fun _ _ _ _ _ => C8.pe_c cN hr (by decide) (by rfl) (pa_cons (pe_op op_sub (pv 0) pe_int) (pa_cons (pv 3) pa_nil)))) pa_nil)))), ?_⟩
    refine ⟨_, rfl, .ref c, .ty "tuple", .type "tuple", .type "tuple", true, rfl, .ty _, .base (.tup hc), kit_ty (by decide +kernel), _, rfl, iteF ?_⟩
    refine ⟨_, rfl, c, [.int 1], rfl, .inr (SqT.of hc), _, rfl, rfl, _, rfl, iteNS rfl ?_⟩
    refine ⟨_, rfl, c, rfl, ⟨_, SqT.of hc⟩, fun D nD => lc_tup (K := K) (a := c) (xs := [.int 1]) (fun i H' => Ext H H' ∧ H' D = some (.lst (List.replicate i (.bl true)))) ⟨Ext.upd nD, upd_same⟩ (fun i H' _ e => SqT.of (e.1 _ _ hc)) ?_ ?_⟩
    · rintro i y H' hi ⟨ex, hD⟩
      obtain ⟨rfl, rfl⟩ : i = 0 ∧ y = .int 1 := by
        match i, hi with
        | 0, hi => exact ⟨rfl, (Option.some.inj hi).symm⟩
        | i + 1, hi => simp at hi
      refine ⟨rfl, tyes_in ?_⟩
      refine ⟨_, rfl, _, _, rfl, rfl, _, rfl, 1, .int 1, rfl, Th.int 1, _, hD, by decide, fun b' o eo => by rw [upd_ne (ne_of_none eo nD)]; exact ex _ _ eo, upd_same⟩
    · rintro H' ⟨ex, hD⟩
      exact ⟨D, [true], rfl, SqL.of hD, k _ ex⟩
theorem scTabI : FnScope ["self", "prime", "wide", "rows", "at", "row"] ["self", "prime", "wide", "rows"] (defScope sTabI) := ⟨rfl, rfl, rfl, by decide +kernel, rfl, by decide +kernel, by decide +kernel⟩
theorem ok_tab {f CT : Addr} {fd : FuncData} (F : L2.Fun K "__init__" "Table.__init__" sTabI f fd) (T : Gb mg) (D : TabD K mg CT) (cP : Cal P w K mg base 2 "is_prime" spPrime2 []) (cN : Cal P w K mg base 2 "is_number" (spNumber K) []) (cC : Cal P w K mg base 3 "is_column" spCol []) :
    FnOk P w K mg base CX0 4 f fd ["self", "prime", "wide", "rows"] (spTab1 CT) := by
  obtain ⟨t12, h12⟩ := D.mo
  refine F.ok scTabI (fun vs H Q E h => ?_) (fun cdv A outer s H vs Q E hr h => ?_)
  · obtain ⟨p, b, c, dx, rfl, _⟩ := h
    rfl
  · obtain ⟨p, b, c, dx, rfl, hp, hb, hc, k⟩ := h
    refine ⟨_, pss_cons (ps_if (pt_not (pt_val (C8.pe_c cP hr (by decide) (by rfl) (pa_cons (pv 1) pa_nil)))) (pss_one ps_never) pss_nil)
      (pss_cons (ps_if (pt_not (pt_val (C8.pe_c cN hr (by decide) (by rfl) (pa_cons (pe_glob (v := .int 12) rfl h12 ⟨_, rfl⟩) (pa_cons (pv 2) pa_nil))))) (pss_one ps_never) pss_nil)
      (pss_cons (ps_if (PW.pt (pw_or (pt_not (pt_val (pe_callB call_isi (by rfl) T.isi (by decide +kernel) (pa_cons (pv 3) (pa_cons (pe_bltn (v := .ty "tuple") (by rfl) T.tup (by decide +kernel) rfl) pa_nil)))))
          (pw_or1 (pt_cmpR op_gt (pe_callB call_len_seq (by rfl) T.len PySem.boot_len (pa_cons (pv 3) pa_nil)) (pe_glob (v := .int 12) rfl h12 ⟨_, rfl⟩) (nomark _))))) (pss_one ps_never) pss_nil)
      (pss_cons (ps_for PassesOwn.never rfl (pi_en (by rfl) T.enum (pa_cons (pv 3) pa_nil)) (pg_tup rfl (pgs_cons (pg_name (i := 4) scTabI.nd rfl (Or.inl rfl)) (pgs_cons (pg_name (i := 5) scTabI.nd rfl (Or.inl rfl)) pgs_nil)))
        (pss_one (ps_if (pt_not (pt_val (C8.pe_c cC hr (by decide) (by rfl) (pa_cons (pv 1) (pa_cons (pv 2) (pa_cons (pv 5) pa_nil)))))) (pss_one ps_never) pss_nil)))
      (pss_cons (ps_fld (pv 0) (pv 1) rfl) (pss_cons (ps_fld (pv 0) (pv 2) rfl) (pss_cons (ps_fld (pv 0) (pv 3) rfl)
      (pss_one (ps_fld (pv 0) (pe_callB call_len_seq (by rfl) T.len PySem.boot_len (pa_cons (pv 3) pa_nil)) rfl)))))))), ?_⟩
    refine ⟨_, rfl, rfl, _, rfl, iteF ?_⟩
    refine ⟨_, rfl, 12, .int 1, rfl, Th.int 1, _, rfl, iteF ?_⟩
    refine ⟨_, rfl, _, .ty "tuple", .type "tuple", .type "tuple", true, rfl, .ty _, .base (.tup hb), kit_ty (by decide +kernel), _, rfl, ?_⟩
    refine iteF ⟨_, rfl, b, _, rfl, .inr (SqT.of hb), _, _, rfl, rfl, _, rfl, iteF ?_⟩
    refine ⟨_, rfl, b, _, rfl, hb, for_en (a := b) (xs := [.ref c]) (fun i σ' H' => (∃ u v, σ' = [some (.ref p), some (.int 2), some (.int 1), some (.ref b), u, v]) ∧ Ext H H') ⟨⟨_, _, rfl⟩, Ext.rfl'⟩ (fun i σ' H' h => h.2 _ _ hb) ?_ ?_⟩
    · rintro i x σ' H' q hx ⟨⟨u, v, rfl⟩, ex⟩ nq
      obtain ⟨rfl, rfl⟩ : i = 0 ∧ x = .ref c := by
        match i, hx with
        | 0, hx => exact ⟨rfl, (Option.some.inj hx).symm⟩
        | i + 1, hx => simp at hx
      have e2 : Ext H (upd H' q (.tup [.int ((0 : Nat) : Int), .ref c])) := ex.trans (Ext.upd nq)
      refine ⟨q, _, rfl, SqT.of upd_same, rfl, _, _, rfl, _, _, rfl, rfl, ?_⟩
      exact ⟨_, rfl, _, rfl, _, rfl, c, rfl, e2 _ _ hc, fun H2 e3 => ⟨_, rfl, iteF ⟨⟨_, _, rfl⟩, e2.trans e3⟩⟩⟩
    · rintro σ' H' ⟨⟨u, v, rfl⟩, ex⟩
      have npb : b ≠ p := fun e => by rw [e, hp] at hb; cases hb
      have hp' := ex _ _ hp
      have hb' := ex _ _ hb
      refine ⟨_, rfl, _, rfl, p, CT, dx, [], rfl, hp', D.cl, D.n1, (by show 0 < 1000; decide), ?_⟩
      refine ⟨_, rfl, _, rfl, p, CT, dx, _, rfl, upd_same, D.cl, D.n2, (by show 1 < 1000; decide), ?_⟩
      refine ⟨_, rfl, _, rfl, p, CT, dx, _, rfl, upd_same, D.cl, D.n3, (by show 2 < 1000; decide), ?_⟩
      refine ⟨_, rfl, b, _, rfl, .inr (SqT.of (by rw [upd_ne npb, upd_ne npb, upd_ne npb]; exact hb')), _, rfl, p, CT, dx, _, rfl, upd_same, D.cl, D.n4, (by show 3 < 1000; decide), ?_⟩
      exact k _ upd_same fun x o n e => by rw [upd_ne n, upd_ne n, upd_ne n, upd_ne n]; exact ex _ _ e
theorem ok_web1 {f CW : Addr} {fd : FuncData} (F : L2.Fun K "__init__" "Web.__init__" sWebI f fd) (T : Gb mg) (W : WebC K mg CW) (cN : Cal P w K mg base 2 "is_number" (spNumber K) []) (cA : Cal P w K mg base 3 "is_arrow" (spArrow K) []) :
    FnOk P w K mg base CX0 4 f fd ["self", "many", "arrows"] (spWeb1 CW) := by
  obtain ⟨t8, h8⟩ := W.mp
  obtain ⟨t12, h12⟩ := W.ma
  refine F.ok scWebI (fun vs H Q E h => ?_) (fun cdv A outer s H vs Q E hr h => ?_)
  · obtain ⟨p, b, c, dx, rfl, _⟩ := h
    rfl
  · obtain ⟨p, b, c, dx, rfl, hp, hb, hc, k⟩ := h
    refine ⟨_, pss_cons (ps_if (PW.pt (pw_or (pt_not (pt_val (C8.pe_c cN hr (by decide) (by rfl) (pa_cons (pe_glob (v := .int 8) rfl h8 ⟨_, rfl⟩) (pa_cons (pv 1) pa_nil))))) (pw_or1 (pt_cmpR op_eq (pv 1) pe_int (nomark _))))) (pss_one ps_never) pss_nil)
      (pss_cons (ps_if (PW.pt (pw_or (pt_not (pt_val (pe_callB call_isi (by rfl) T.isi (by decide +kernel) (pa_cons (pv 2) (pa_cons (pe_bltn (v := .ty "tuple") (by rfl) T.tup (by decide +kernel) rfl) pa_nil)))))
          (pw_or1 (pt_cmpR op_gt (pe_callB call_len_seq (by rfl) T.len PySem.boot_len (pa_cons (pv 2) pa_nil)) (pe_glob (v := .int 12) rfl h12 ⟨_, rfl⟩) (nomark _))))) (pss_one ps_never) pss_nil)
      (pss_cons (ps_for PassesOwn.never rfl (pi_en (by rfl) T.enum (pa_cons (pv 2) pa_nil)) (pg_tup rfl (pgs_cons (pg_name (i := 3) scWebI.nd rfl (Or.inl rfl)) (pgs_cons (pg_name (i := 4) scWebI.nd rfl (Or.inl rfl)) pgs_nil)))
        (pss_one (ps_if (pt_not (pt_val (C8.pe_c cA hr (by decide) (by rfl) (pa_cons (pv 1) (pa_cons (pv 4) pa_nil))))) (pss_one ps_never) pss_nil)))
      (pss_cons (ps_fld (pv 0) (pv 1) rfl) (pss_one (ps_fld (pv 0) (pv 2) rfl))))), ?_⟩
    refine ⟨_, rfl, 8, .int 2, rfl, Th.int 2, _, rfl, iteF ⟨_, rfl, rfl, _, rfl, iteF ?_⟩⟩
    refine ⟨_, rfl, _, .ty "tuple", .type "tuple", .type "tuple", true, rfl, .ty _, .base (.tup hb), kit_ty (by decide +kernel), _, rfl, ?_⟩
    refine iteF ⟨_, rfl, b, _, rfl, .inr (SqT.of hb), _, _, rfl, rfl, _, rfl, iteF ?_⟩
    refine ⟨_, rfl, b, _, rfl, hb, for_en (a := b) (xs := [.ref c]) (fun i σ' H' => (∃ u v, σ' = [some (.ref p), some (.int 2), some (.ref b), u, v]) ∧ Ext H H') ⟨⟨_, _, rfl⟩, Ext.rfl'⟩ (fun i σ' H' h => h.2 _ _ hb) ?_ ?_⟩
    · rintro i x σ' H' q hx ⟨⟨u, v, rfl⟩, ex⟩ nq
      obtain ⟨rfl, rfl⟩ : i = 0 ∧ x = .ref c := by
        match i, hx with
        | 0, hx => exact ⟨rfl, (Option.some.inj hx).symm⟩
        | i + 1, hx => simp at hx
      have e2 : Ext H (upd H' q (.tup [.int ((0 : Nat) : Int), .ref c])) := ex.trans (Ext.upd nq)
      refine ⟨q, _, rfl, SqT.of upd_same, rfl, _, _, rfl, _, _, rfl, rfl, ?_⟩
      refine ⟨_, rfl, _, rfl, 2, .ref c, rfl, Th.tup (n := 0) (e2 _ _ hc) (fun y hy => ?_), fun b' H2 hb' e3 => ?_⟩
      · rcases List.mem_cons.mp hy with rfl | hy
        · exact Th.int 0
        · rw [List.mem_singleton.mp hy]
          exact Th.int 1
      · have z : b' = true := hb'.mpr ⟨c, 0, 1, rfl, e2 _ _ hc, by decide, by decide, by decide, by decide⟩
        subst z
        exact ⟨_, rfl, iteF ⟨⟨_, _, rfl⟩, e2.trans e3⟩⟩
    · rintro σ' H' ⟨⟨u, v, rfl⟩, ex⟩
      have hp' := ex _ _ hp
      refine ⟨_, rfl, _, rfl, p, CW, dx, [], rfl, hp', W.cl, W.nM, (by show 0 < 1000; decide), ?_⟩
      refine ⟨_, rfl, _, rfl, p, CW, dx, _, rfl, upd_same, W.cl, W.nA, (by show 1 < 1000; decide), ?_⟩
      exact k _ upd_same fun x o n e => by rw [upd_ne n, upd_ne n]; exact ex _ _ e
end
end K9
set_option Elab.async false
set_option linter.all false
set_option maxRecDepth 100000
set_option maxHeartbeats 8000000
namespace K9
open PySem L2
theorem paired_refl {α : Type} {R : α → α → Prop} : ∀ {xs : List α}, (∀ y ∈ xs, R y y) → Paired R xs xs
  | [], _ => .nil
  | x :: xs, h => .cons (h x List.mem_cons_self) (paired_refl fun y hy => h y (List.mem_cons_of_mem _ hy))
theorem DS.tupI {CT CW : Addr} {S : Hp} {n : Nat} {p : Addr} {xs : List V} (h : S p = some (.tup xs)) (len : xs.length ≤ 100) (it : ∀ y ∈ xs, DS CT CW S n y y) : DS CT CW S (n + 1) (.ref p) (.ref p) := .inr ⟨p, p, xs, xs, rfl, rfl, .inl ⟨h, h⟩, len, paired_refl it⟩
theorem DS.lstI {CT CW : Addr} {S : Hp} {n : Nat} {p : Addr} {xs : List V} (h : S p = some (.lst xs)) (len : xs.length ≤ 100) (it : ∀ y ∈ xs, DS CT CW S n y y) : DS CT CW S (n + 1) (.ref p) (.ref p) := .inr ⟨p, p, xs, xs, rfl, rfl, .inr ⟨h, h⟩, len, paired_refl it⟩
theorem DS.at {CT CW : Addr} {S : Hp} {n : Nat} {v : V} (h : Atom CT CW S v) : DS CT CW S (n + 1) v v := .inl ⟨rfl, h⟩
theorem DS.ints {CT CW : Addr} {S : Hp} {n : Nat} {is : List Int} : ∀ y ∈ is.map V.int, DS CT CW S (n + 1) y y := fun y hy => by
  obtain ⟨i, _, rfl⟩ := List.mem_map.mp hy
  exact DS.at (.int i)
theorem good_a : goodD (mergeK [] [(Sum.inr ("a" : Str), V.int 1)]) := fun p hp => by
  obtain rfl := List.mem_singleton.mp (show p ∈ [((Sum.inr ("a" : Str) : Key), V.int 1)] from hp)
  exact ⟨by decide +kernel, rfl⟩
def spOddS (CT CW : Addr) : Sp := fun vs H Q _ => ∃ a : Addr, vs = [.ref a] ∧ PotAt H a ∧ ∀ (x : V) (H' : Hp), Go a H H' → DS CT CW (Off a H') 3 x x → Q x H'
def spThing (CT CW : Addr) : Sp := fun vs H Q _ => ∃ a : Addr, vs = [.ref a] ∧ PotAt H a ∧ ∀ (x : V) (H' : Hp), Go a H H' → DS CT CW (Off a H') 39 x x → Q x H'
section
variable {P : Program} {w : World} {K : PySem.W.Frag} {mg : Str → Option Value} {base : Heap}
theorem scOdd : FnScope ["hand", "one", "web", "menu"] ["hand"] (defScope sOdd) := ⟨rfl, rfl, rfl, by decide +kernel, rfl, by decide +kernel, by decide +kernel⟩
theorem ok_odd {f fT fW CT CW : Addr} {fd fdT fdW : FuncData} (F : L2.Fun K "_law_odd" "_law_odd" sOdd f fd) (D : TabD K mg CT) (W : WebC K mg CW) (cA : Cal P w K mg base 2 "_law_some" spAny [])
    (MT : Mk K CT fT) (FT : FnOk P w K mg base CX0 4 fT fdT ["self", "prime", "wide", "rows"] (spTab1 CT)) (bT : Binds K fdT ["self", "prime", "wide", "rows"] [])
    (MW : Mk K CW fW) (FW : FnOk P w K mg base CX0 4 fW fdW ["self", "many", "arrows"] (spWeb1 CW)) (bW : Binds K fdW ["self", "many", "arrows"] []) : FnOk P w K mg base CX0 6 f fd ["hand"] (spOddS CT CW) := by
  refine F.ok scOdd (fun vs H Q E h => ?_) (fun cdv A outer s H vs Q E hr h => ?_)
  · obtain ⟨a, rfl, _⟩ := h
    rfl
  · obtain ⟨a, rfl, pot, k⟩ := h
    refine ⟨_, pss_cons (ps_par (i := 1) (j := 2) rfl scOdd.nd rfl rfl (by decide) rfl rfl (pa_cons (pe_make MT FT hr (by rfl) D.mgC bT .nil pass0 (pa_cons pe_int (pa_cons pe_int (pa_cons (pe_tup (pa_cons (pe_tup (pa_cons pe_int pa_nil)) pa_nil)) pa_nil)))) (pa_cons (pe_make MW FW hr (by rfl) W.mgC bW .nil pass0 (pa_cons pe_int (pa_cons (pe_tup (pa_cons (pe_tup (pa_cons pe_int (pa_cons pe_int pa_nil))) pa_nil)) pa_nil))) pa_nil)) (by rfl))
      (pss_cons (ps_set (i := 3) scOdd.nd rfl (Or.inl rfl) (pe_lst (pa_cons pe_non (pa_cons pe_bl (pa_cons pe_bl (pa_cons pe_str (pa_cons pe_str (pa_cons pe_str (pa_cons (pe_tup pa_nil) (pa_cons (pe_lst pa_nil) (pa_cons pe_dnewK (pa_cons (pe_tup (pa_cons pe_int pa_nil)) (pa_cons (pe_lst (pa_cons pe_int (pa_cons pe_int pa_nil))) pa_nil)))))))))))))
      (pss_cons (ps_set (i := 3) scOdd.nd rfl (Or.inl rfl) (pe_op op_cat (pv 3) (pe_lst (pa_cons (pe_tup (pa_cons (pe_tup pa_nil) pa_nil)) (pa_cons (pe_disp (pps_cons pe_str pe_int pps_nil) (by rfl) (by rfl) (fun z => by cases z) (by decide)) (pa_cons (pe_un un_neg pe_int) (pa_cons pe_int (pa_cons pe_int (pa_cons (pe_op op_sub (pe_op op_pow pe_int pe_int) pe_int) (pa_cons (pe_tup (pa_cons pe_int (pa_cons pe_int pa_nil))) pa_nil))))))))))
      (pss_one (ps_ret (C8.pe_c cA hr (by decide) (by rfl) (pa_cons (pv 0) (pa_cons (pe_op op_cat (pv 3) (pe_lst (pa_cons (pe_tup (pa_cons pe_str pa_nil)) (pa_cons (pe_tup (pa_cons pe_int (pa_cons pe_int (pa_cons pe_int (pa_cons pe_int pa_nil))))) (pa_cons (pv 1) (pa_cons (pv 2) pa_nil)))))) pa_nil))))))), ?_⟩
    refine ⟨by show 1 ≤ sizeLine; decide, fun c1 n1 => ?_⟩
    have e1 : Ext H (upd H c1 (.tup [.int 1])) := Ext.upd n1
    have g1 : upd H c1 (.tup [.int 1]) c1 = some (.tup [.int 1]) := upd_same
    have na1 : c1 ≠ a := (pot.ne n1).symm
    generalize upd H c1 (.tup [.int 1]) = H1 at *
    have pot1 : PotAt H1 a := (Go.of_ext pot e1).1
    refine ⟨by show 1 ≤ sizeLine; decide, fun b1 n2 => ?_⟩
    have e2 : Ext H1 (upd H1 b1 (.tup [.ref c1])) := Ext.upd n2
    have g2 : upd H1 b1 (.tup [.ref c1]) b1 = some (.tup [.ref c1]) := upd_same
    have na2 : b1 ≠ a := (pot1.ne n2).symm
    generalize upd H1 b1 (.tup [.ref c1]) = H2 at *
    have pot2 : PotAt H2 a := (Go.of_ext pot1 e2).1
    intro o1 dxo1 noo1 ndo1 neo1
    have wbo1 : ∀ x u, H2 x = some u → (upd (upd H2 dxo1 (.own o1)) o1 (.ins CT dxo1 [])) x = some u := fun x u q => by
      rw [upd_ne (ne_of_none q noo1), upd_ne (ne_of_none q ndo1)]
      exact q
    refine ⟨o1, b1, c1, dxo1, rfl, upd_same, wbo1 _ _ g2, wbo1 _ _ (e2 _ _ g1), fun H3 g3 kpo1 => ⟨rfl, ?_⟩⟩
    have e3 : Ext H2 H3 := tab_ext noo1 ndo1 kpo1
    have na3 : o1 ≠ a := (pot2.ne noo1).symm
    have pot3 : PotAt H3 a := (Go.of_ext pot2 e3).1
    refine ⟨by show 2 ≤ sizeLine; decide, fun c2 n3 => ?_⟩
    have e4 : Ext H3 (upd H3 c2 (.tup [.int 0, .int 1])) := Ext.upd n3
    have g4 : upd H3 c2 (.tup [.int 0, .int 1]) c2 = some (.tup [.int 0, .int 1]) := upd_same
    have na4 : c2 ≠ a := (pot3.ne n3).symm
    generalize upd H3 c2 (.tup [.int 0, .int 1]) = H4 at *
    have pot4 : PotAt H4 a := (Go.of_ext pot3 e4).1
    refine ⟨by show 1 ≤ sizeLine; decide, fun b2 n4 => ?_⟩
    have e5 : Ext H4 (upd H4 b2 (.tup [.ref c2])) := Ext.upd n4
    have g5 : upd H4 b2 (.tup [.ref c2]) b2 = some (.tup [.ref c2]) := upd_same
    have na5 : b2 ≠ a := (pot4.ne n4).symm
    generalize upd H4 b2 (.tup [.ref c2]) = H5 at *
    have pot5 : PotAt H5 a := (Go.of_ext pot4 e5).1
    intro o2 dxo2 noo2 ndo2 neo2
    have wbo2 : ∀ x u, H5 x = some u → (upd (upd H5 dxo2 (.own o2)) o2 (.ins CW dxo2 [])) x = some u := fun x u q => by
      rw [upd_ne (ne_of_none q noo2), upd_ne (ne_of_none q ndo2)]
      exact q
    refine ⟨o2, b2, c2, dxo2, rfl, upd_same, wbo2 _ _ g5, wbo2 _ _ (e5 _ _ g4), fun H6 g6 kpo2 => ⟨rfl, ?_⟩⟩
    have e6 : Ext H5 H6 := tab_ext noo2 ndo2 kpo2
    have na6 : o2 ≠ a := (pot5.ne noo2).symm
    have pot6 : PotAt H6 a := (Go.of_ext pot5 e6).1
    refine ⟨_, _, rfl, Nat.zero_le _, fun p1 n5 => ?_⟩
    have e7 : Ext H6 (upd H6 p1 (.tup [])) := Ext.upd n5
    have g7 : upd H6 p1 (.tup []) p1 = some (.tup []) := upd_same
    have na7 : p1 ≠ a := (pot6.ne n5).symm
    generalize upd H6 p1 (.tup []) = H7 at *
    have pot7 : PotAt H7 a := (Go.of_ext pot6 e7).1
    refine ⟨Nat.zero_le _, fun l1 n6 => ?_⟩
    have e8 : Ext H7 (upd H7 l1 (.lst [])) := Ext.upd n6
    have g8 : upd H7 l1 (.lst []) l1 = some (.lst []) := upd_same
    have na8 : l1 ≠ a := (pot7.ne n6).symm
    generalize upd H7 l1 (.lst []) = H8 at *
    have pot8 : PotAt H8 a := (Go.of_ext pot7 e8).1
    intro d1 n7
    have e9 : Ext H8 (upd H8 d1 (.dK [])) := Ext.upd n7
    have g9 : upd H8 d1 (.dK []) d1 = some (.dK []) := upd_same
    have na9 : d1 ≠ a := (pot8.ne n7).symm
    generalize upd H8 d1 (.dK []) = H9 at *
    have pot9 : PotAt H9 a := (Go.of_ext pot8 e9).1
    refine ⟨by show 1 ≤ sizeLine; decide, fun t1 n8 => ?_⟩
    have e10 : Ext H9 (upd H9 t1 (.tup [.int 0])) := Ext.upd n8
    have g10 : upd H9 t1 (.tup [.int 0]) t1 = some (.tup [.int 0]) := upd_same
    have na10 : t1 ≠ a := (pot9.ne n8).symm
    generalize upd H9 t1 (.tup [.int 0]) = H10 at *
    have pot10 : PotAt H10 a := (Go.of_ext pot9 e10).1
    refine ⟨by show 2 ≤ sizeLine; decide, fun l2 n9 => ?_⟩
    have e11 : Ext H10 (upd H10 l2 (.lst [.int 0, .int 0])) := Ext.upd n9
    have g11 : upd H10 l2 (.lst [.int 0, .int 0]) l2 = some (.lst [.int 0, .int 0]) := upd_same
    have na11 : l2 ≠ a := (pot10.ne n9).symm
    generalize upd H10 l2 (.lst [.int 0, .int 0]) = H11 at *
    have pot11 : PotAt H11 a := (Go.of_ext pot10 e11).1
    refine ⟨by show 11 ≤ sizeLine; decide, fun L1 n10 => ?_⟩
    have e12 : Ext H11 (upd H11 L1 (.lst [.non, .bl true, .bl false, .str "", .str "push", .str "0", .ref p1, .ref l1, .ref d1, .ref t1, .ref l2])) := Ext.upd n10
    have g12 : upd H11 L1 (.lst [.non, .bl true, .bl false, .str "", .str "push", .str "0", .ref p1, .ref l1, .ref d1, .ref t1, .ref l2]) L1 = some (.lst [.non, .bl true, .bl false, .str "", .str "push", .str "0", .ref p1, .ref l1, .ref d1, .ref t1, .ref l2]) := upd_same
    have na12 : L1 ≠ a := (pot11.ne n10).symm
    generalize upd H11 L1 (.lst [.non, .bl true, .bl false, .str "", .str "push", .str "0", .ref p1, .ref l1, .ref d1, .ref t1, .ref l2]) = H12 at *
    have pot12 : PotAt H12 a := (Go.of_ext pot11 e12).1
    refine ⟨_, rfl, Nat.zero_le _, fun p2 n11 => ?_⟩
    have e13 : Ext H12 (upd H12 p2 (.tup [])) := Ext.upd n11
    have g13 : upd H12 p2 (.tup []) p2 = some (.tup []) := upd_same
    have na13 : p2 ≠ a := (pot12.ne n11).symm
    generalize upd H12 p2 (.tup []) = H13 at *
    have pot13 : PotAt H13 a := (Go.of_ext pot12 e13).1
    refine ⟨by show 1 ≤ sizeLine; decide, fun t2 n12 => ?_⟩
    have e14 : Ext H13 (upd H13 t2 (.tup [.ref p2])) := Ext.upd n12
    have g14 : upd H13 t2 (.tup [.ref p2]) t2 = some (.tup [.ref p2]) := upd_same
    have na14 : t2 ≠ a := (pot13.ne n12).symm
    generalize upd H13 t2 (.tup [.ref p2]) = H14 at *
    have pot14 : PotAt H14 a := (Go.of_ext pot13 e14).1
    refine fun d2 n13 => ⟨upd_same, [(Sum.inr "a", .int 1)], rfl, by decide, ?_⟩
    rw [upd_upd]
    have e15 : Ext H14 (upd H14 d2 (.dK (mergeK [] [(Sum.inr "a", .int 1)]))) := Ext.upd n13
    have g15 : upd H14 d2 (.dK (mergeK [] [(Sum.inr "a", .int 1)])) d2 = some (.dK (mergeK [] [(Sum.inr "a", .int 1)])) := upd_same
    have na15 : d2 ≠ a := (pot14.ne n13).symm
    generalize upd H14 d2 (.dK (mergeK [] [(Sum.inr "a", .int 1)])) = H15 at *
    have pot15 : PotAt H15 a := (Go.of_ext pot14 e15).1
    refine ⟨1, rfl, _, _, rfl, rfl, ⟨by decide, by decide, by decide⟩, _, _, rfl, rfl, by show 2 ≤ sizeLine; decide, fun t3 n14 => ?_⟩
    have e16 : Ext H15 (upd H15 t3 (.tup [.int 0, .int 1])) := Ext.upd n14
    have g16 : upd H15 t3 (.tup [.int 0, .int 1]) t3 = some (.tup [.int 0, .int 1]) := upd_same
    have na16 : t3 ≠ a := (pot15.ne n14).symm
    generalize upd H15 t3 (.tup [.int 0, .int 1]) = H16 at *
    have pot16 : PotAt H16 a := (Go.of_ext pot15 e16).1
    refine ⟨by show 7 ≤ sizeLine; decide, fun L2 n15 => ?_⟩
    have e17 : Ext H16 (upd H16 L2 (.lst [.ref t2, .ref d2, .int (-1), .int 0, .int 11, .int (10 ^ (12 : Int).toNat - 1), .ref t3])) := Ext.upd n15
    have g17 : upd H16 L2 (.lst [.ref t2, .ref d2, .int (-1), .int 0, .int 11, .int (10 ^ (12 : Int).toNat - 1), .ref t3]) L2 = some (.lst [.ref t2, .ref d2, .int (-1), .int 0, .int 11, .int (10 ^ (12 : Int).toNat - 1), .ref t3]) := upd_same
    have na17 : L2 ≠ a := (pot16.ne n15).symm
    generalize upd H16 L2 (.lst [.ref t2, .ref d2, .int (-1), .int 0, .int 11, .int (10 ^ (12 : Int).toNat - 1), .ref t3]) = H17 at *
    have pot17 : PotAt H17 a := (Go.of_ext pot16 e17).1
    refine ⟨L1, L2, [.non, .bl true, .bl false, .str "", .str "push", .str "0", .ref p1, .ref l1, .ref d1, .ref t1, .ref l2], [.ref t2, .ref d2, .int (-1), .int 0, .int 11, .int (10 ^ (12 : Int).toNat - 1), .ref t3], rfl, rfl, (e13.trans (e14.trans (e15.trans (e16.trans e17)))) _ _ g12, g17, by show 18 ≤ sizeLine; decide, fun N1 n16 => ?_⟩
    have e18 : Ext H17 (upd H17 N1 (.lst ([.non, .bl true, .bl false, .str "", .str "push", .str "0", .ref p1, .ref l1, .ref d1, .ref t1, .ref l2] ++ [.ref t2, .ref d2, .int (-1), .int 0, .int 11, .int (10 ^ (12 : Int).toNat - 1), .ref t3]))) := Ext.upd n16
    have g18 : upd H17 N1 (.lst ([.non, .bl true, .bl false, .str "", .str "push", .str "0", .ref p1, .ref l1, .ref d1, .ref t1, .ref l2] ++ [.ref t2, .ref d2, .int (-1), .int 0, .int 11, .int (10 ^ (12 : Int).toNat - 1), .ref t3])) N1 = some (.lst ([.non, .bl true, .bl false, .str "", .str "push", .str "0", .ref p1, .ref l1, .ref d1, .ref t1, .ref l2] ++ [.ref t2, .ref d2, .int (-1), .int 0, .int 11, .int (10 ^ (12 : Int).toNat - 1), .ref t3])) := upd_same
    have na18 : N1 ≠ a := (pot17.ne n16).symm
    generalize upd H17 N1 (.lst ([.non, .bl true, .bl false, .str "", .str "push", .str "0", .ref p1, .ref l1, .ref d1, .ref t1, .ref l2] ++ [.ref t2, .ref d2, .int (-1), .int 0, .int 11, .int (10 ^ (12 : Int).toNat - 1), .ref t3])) = H18 at *
    have pot18 : PotAt H18 a := (Go.of_ext pot17 e18).1
    refine ⟨_, rfl, _, rfl, by show 1 ≤ sizeLine; decide, fun t4 n17 => ?_⟩
    have e19 : Ext H18 (upd H18 t4 (.tup [.str "yes"])) := Ext.upd n17
    have g19 : upd H18 t4 (.tup [.str "yes"]) t4 = some (.tup [.str "yes"]) := upd_same
    have na19 : t4 ≠ a := (pot18.ne n17).symm
    generalize upd H18 t4 (.tup [.str "yes"]) = H19 at *
    have pot19 : PotAt H19 a := (Go.of_ext pot18 e19).1
    refine ⟨by show 4 ≤ sizeLine; decide, fun t5 n18 => ?_⟩
    have e20 : Ext H19 (upd H19 t5 (.tup [.int 0, .int 1, .int 5, .int 5])) := Ext.upd n18
    have g20 : upd H19 t5 (.tup [.int 0, .int 1, .int 5, .int 5]) t5 = some (.tup [.int 0, .int 1, .int 5, .int 5]) := upd_same
    have na20 : t5 ≠ a := (pot19.ne n18).symm
    generalize upd H19 t5 (.tup [.int 0, .int 1, .int 5, .int 5]) = H20 at *
    have pot20 : PotAt H20 a := (Go.of_ext pot19 e20).1
    refine ⟨_, rfl, _, rfl, by show 4 ≤ sizeLine; decide, fun L3 n19 => ?_⟩
    have e21 : Ext H20 (upd H20 L3 (.lst [.ref t4, .ref t5, .ref o1, .ref o2])) := Ext.upd n19
    have g21 : upd H20 L3 (.lst [.ref t4, .ref t5, .ref o1, .ref o2]) L3 = some (.lst [.ref t4, .ref t5, .ref o1, .ref o2]) := upd_same
    have na21 : L3 ≠ a := (pot20.ne n19).symm
    generalize upd H20 L3 (.lst [.ref t4, .ref t5, .ref o1, .ref o2]) = H21 at *
    have pot21 : PotAt H21 a := (Go.of_ext pot20 e21).1
    refine ⟨N1, L3, [.non, .bl true, .bl false, .str "", .str "push", .str "0", .ref p1, .ref l1, .ref d1, .ref t1, .ref l2] ++ [.ref t2, .ref d2, .int (-1), .int 0, .int 11, .int (10 ^ (12 : Int).toNat - 1), .ref t3], [.ref t4, .ref t5, .ref o1, .ref o2], rfl, rfl, (e19.trans (e20.trans e21)) _ _ g18, g21, by show 22 ≤ sizeLine; decide, fun N2 n20 => ?_⟩
    have e22 : Ext H21 (upd H21 N2 (.lst (([.non, .bl true, .bl false, .str "", .str "push", .str "0", .ref p1, .ref l1, .ref d1, .ref t1, .ref l2] ++ [.ref t2, .ref d2, .int (-1), .int 0, .int 11, .int (10 ^ (12 : Int).toNat - 1), .ref t3]) ++ [.ref t4, .ref t5, .ref o1, .ref o2]))) := Ext.upd n20
    have g22 : upd H21 N2 (.lst (([.non, .bl true, .bl false, .str "", .str "push", .str "0", .ref p1, .ref l1, .ref d1, .ref t1, .ref l2] ++ [.ref t2, .ref d2, .int (-1), .int 0, .int 11, .int (10 ^ (12 : Int).toNat - 1), .ref t3]) ++ [.ref t4, .ref t5, .ref o1, .ref o2])) N2 = some (.lst (([.non, .bl true, .bl false, .str "", .str "push", .str "0", .ref p1, .ref l1, .ref d1, .ref t1, .ref l2] ++ [.ref t2, .ref d2, .int (-1), .int 0, .int 11, .int (10 ^ (12 : Int).toNat - 1), .ref t3]) ++ [.ref t4, .ref t5, .ref o1, .ref o2])) := upd_same
    have na22 : N2 ≠ a := (pot21.ne n20).symm
    generalize upd H21 N2 (.lst (([.non, .bl true, .bl false, .str "", .str "push", .str "0", .ref p1, .ref l1, .ref d1, .ref t1, .ref l2] ++ [.ref t2, .ref d2, .int (-1), .int 0, .int 11, .int (10 ^ (12 : Int).toNat - 1), .ref t3]) ++ [.ref t4, .ref t5, .ref o1, .ref o2])) = H22 at *
    have pot22 : PotAt H22 a := (Go.of_ext pot21 e22).1
    have s1 := ((e2.trans (e3.trans (e4.trans (e5.trans (e6.trans (e7.trans (e8.trans (e9.trans (e10.trans (e11.trans (e12.trans (e13.trans (e14.trans (e15.trans (e16.trans (e17.trans (e18.trans (e19.trans (e20.trans (e21.trans e22)))))))))))))))))))) _ _ g1)
    have s2 := ((e3.trans (e4.trans (e5.trans (e6.trans (e7.trans (e8.trans (e9.trans (e10.trans (e11.trans (e12.trans (e13.trans (e14.trans (e15.trans (e16.trans (e17.trans (e18.trans (e19.trans (e20.trans (e21.trans e22))))))))))))))))))) _ _ g2)
    have s3 := ((e4.trans (e5.trans (e6.trans (e7.trans (e8.trans (e9.trans (e10.trans (e11.trans (e12.trans (e13.trans (e14.trans (e15.trans (e16.trans (e17.trans (e18.trans (e19.trans (e20.trans (e21.trans e22)))))))))))))))))) _ _ g3)
    have s4 := ((e5.trans (e6.trans (e7.trans (e8.trans (e9.trans (e10.trans (e11.trans (e12.trans (e13.trans (e14.trans (e15.trans (e16.trans (e17.trans (e18.trans (e19.trans (e20.trans (e21.trans e22))))))))))))))))) _ _ g4)
    have s5 := ((e6.trans (e7.trans (e8.trans (e9.trans (e10.trans (e11.trans (e12.trans (e13.trans (e14.trans (e15.trans (e16.trans (e17.trans (e18.trans (e19.trans (e20.trans (e21.trans e22)))))))))))))))) _ _ g5)
    have s6 := ((e7.trans (e8.trans (e9.trans (e10.trans (e11.trans (e12.trans (e13.trans (e14.trans (e15.trans (e16.trans (e17.trans (e18.trans (e19.trans (e20.trans (e21.trans e22))))))))))))))) _ _ g6)
    have s7 := ((e8.trans (e9.trans (e10.trans (e11.trans (e12.trans (e13.trans (e14.trans (e15.trans (e16.trans (e17.trans (e18.trans (e19.trans (e20.trans (e21.trans e22)))))))))))))) _ _ g7)
    have s8 := ((e9.trans (e10.trans (e11.trans (e12.trans (e13.trans (e14.trans (e15.trans (e16.trans (e17.trans (e18.trans (e19.trans (e20.trans (e21.trans e22))))))))))))) _ _ g8)
    have s9 := ((e10.trans (e11.trans (e12.trans (e13.trans (e14.trans (e15.trans (e16.trans (e17.trans (e18.trans (e19.trans (e20.trans (e21.trans e22)))))))))))) _ _ g9)
    have s10 := ((e11.trans (e12.trans (e13.trans (e14.trans (e15.trans (e16.trans (e17.trans (e18.trans (e19.trans (e20.trans (e21.trans e22))))))))))) _ _ g10)
    have s11 := ((e12.trans (e13.trans (e14.trans (e15.trans (e16.trans (e17.trans (e18.trans (e19.trans (e20.trans (e21.trans e22)))))))))) _ _ g11)
    have s12 := ((e13.trans (e14.trans (e15.trans (e16.trans (e17.trans (e18.trans (e19.trans (e20.trans (e21.trans e22))))))))) _ _ g12)
    have s13 := ((e14.trans (e15.trans (e16.trans (e17.trans (e18.trans (e19.trans (e20.trans (e21.trans e22)))))))) _ _ g13)
    have s14 := ((e15.trans (e16.trans (e17.trans (e18.trans (e19.trans (e20.trans (e21.trans e22))))))) _ _ g14)
    have s15 := ((e16.trans (e17.trans (e18.trans (e19.trans (e20.trans (e21.trans e22)))))) _ _ g15)
    have s16 := ((e17.trans (e18.trans (e19.trans (e20.trans (e21.trans e22))))) _ _ g16)
    have s17 := ((e18.trans (e19.trans (e20.trans (e21.trans e22)))) _ _ g17)
    have s18 := ((e19.trans (e20.trans (e21.trans e22))) _ _ g18)
    have s19 := ((e20.trans (e21.trans e22)) _ _ g19)
    have s20 := ((e21.trans e22) _ _ g20)
    have s21 := (e22 _ _ g21)
    have s22 := g22
    have eF : Ext H H22 := (e1.trans (e2.trans (e3.trans (e4.trans (e5.trans (e6.trans (e7.trans (e8.trans (e9.trans (e10.trans (e11.trans (e12.trans (e13.trans (e14.trans (e15.trans (e16.trans (e17.trans (e18.trans (e19.trans (e20.trans (e21.trans e22)))))))))))))))))))))
    refine ⟨a, N2, _, rfl, pot22, na22, s22, by simp, by show 22 ≤ 1000; decide, fun x H' hx go => ?_⟩
    have oe : Ext (Off a H22) (Off a H') := go.off
    have f1 := oe _ _ ((off_at na1).trans s1)
    have f2 := oe _ _ ((off_at na2).trans s2)
    have f3 := oe _ _ ((off_at na3).trans s3)
    have f4 := oe _ _ ((off_at na4).trans s4)
    have f5 := oe _ _ ((off_at na5).trans s5)
    have f6 := oe _ _ ((off_at na6).trans s6)
    have f7 := oe _ _ ((off_at na7).trans s7)
    have f8 := oe _ _ ((off_at na8).trans s8)
    have f9 := oe _ _ ((off_at na9).trans s9)
    have f10 := oe _ _ ((off_at na10).trans s10)
    have f11 := oe _ _ ((off_at na11).trans s11)
    have f12 := oe _ _ ((off_at na12).trans s12)
    have f13 := oe _ _ ((off_at na13).trans s13)
    have f14 := oe _ _ ((off_at na14).trans s14)
    have f15 := oe _ _ ((off_at na15).trans s15)
    have f16 := oe _ _ ((off_at na16).trans s16)
    have f17 := oe _ _ ((off_at na17).trans s17)
    have f18 := oe _ _ ((off_at na18).trans s18)
    have f19 := oe _ _ ((off_at na19).trans s19)
    have f20 := oe _ _ ((off_at na20).trans s20)
    have f21 := oe _ _ ((off_at na21).trans s21)
    have f22 := oe _ _ ((off_at na22).trans s22)
    refine k x H' ((Go.of_ext pot eF).trans go) ?_
    simp only [List.mem_append, List.mem_cons, List.not_mem_nil, or_false] at hx
    rcases hx with ((rfl | rfl | rfl | rfl | rfl | rfl | rfl | rfl | rfl | rfl | rfl) | (rfl | rfl | rfl | rfl | rfl | rfl | rfl)) | (rfl | rfl | rfl | rfl)
    · exact DS.at .non
    · exact DS.at (.bl _)
    · exact DS.at (.bl _)
    · exact DS.at (.str _ (by decide +kernel))
    · exact DS.at (.str _ (by decide +kernel))
    · exact DS.at (.str _ (by decide +kernel))
    · exact DS.tupI f7 (by decide) (fun y hy => by simp at hy)
    · exact DS.lstI f8 (by decide) (fun y hy => by simp at hy)
    · exact DS.at (.dct f9 (fun p hp => by simp at hp))
    · exact DS.tupI f10 (by decide) (DS.ints (is := [0]))
    · exact DS.lstI f11 (by decide) (DS.ints (is := [0, 0]))
    · exact DS.tupI f14 (by show 1 ≤ 100; decide) (fun y hy => by rw [List.mem_singleton.mp hy]; exact DS.tupI f13 (by decide) (fun y hy => by simp at hy))
    · exact DS.at (.dct f15 good_a)
    · exact DS.at (.int _)
    · exact DS.at (.int _)
    · exact DS.at (.int _)
    · exact DS.at (.int _)
    · exact DS.tupI f16 (by decide) (DS.ints (is := [0, 1]))
    · exact DS.tupI f19 (by decide) (fun y hy => by rw [List.mem_singleton.mp hy]; exact DS.at (.str _ (by decide +kernel)))
    · exact DS.tupI f20 (by decide) (DS.ints (is := [0, 1, 5, 5]))
    · exact DS.at (.tab (m := 2) (w := 1) (n := 1) (ll := [[1]]) ⟨_, f3⟩ ⟨[c1], f2, .cons f1 .nil⟩)
    · exact DS.at (.web (m := 2) (ll := [[0, 1]]) ⟨_, f6⟩ ⟨[c2], f5, .cons f4 .nil⟩)
theorem scThing : FnScope ["hand", "thing", "lap"] ["hand"] (defScope sThing) := ⟨rfl, rfl, rfl, by decide +kernel, rfl, by decide +kernel, by decide +kernel⟩
theorem ok_thing {f CT CW : Addr} {fd : FuncData} (F : L2.Fun K "_law_thing" "_law_thing" sThing f fd) (T : Gb mg) (cD : Cal P w K mg base 1 "_law_draw" spDraw []) (cO : Cal P w K mg base 6 "_law_odd" (spOddS CT CW) []) : FnOk P w K mg base CX0 7 f fd ["hand"] (spThing CT CW) := by
  refine F.ok scThing (fun vs H Q E h => ?_) (fun cdv A outer s H vs Q E hr h => ?_)
  · obtain ⟨a, rfl, _⟩ := h
    rfl
  · obtain ⟨a, rfl, pot, k⟩ := h
    refine ⟨_, pss_cons (ps_set (i := 1) scThing.nd rfl (Or.inl rfl) (C8.pe_c cO hr (by decide) (by rfl) (pa_cons (pv 0) pa_nil)))
      (pss_cons (ps_for PassesOwn.never rfl (pi_range1 (by rfl) T.rng (pa_cons (C8.pe_c cD hr (by decide) (by rfl) (pa_cons (pv 0) (pa_cons pe_int pa_nil))) pa_nil)) (pg_name (i := 2) scThing.nd rfl (Or.inl rfl))
        (pss_one (ps_set (i := 1) scThing.nd rfl (Or.inl rfl) (pe_ifExp (pt_cmpR op_eq (C8.pe_c cD hr (by decide) (by rfl) (pa_cons (pv 0) (pa_cons pe_int pa_nil))) pe_int (nomark _)) (pe_tup (pa_cons (pv 1) (pa_cons (pv 2) pa_nil))) (pe_lst (pa_cons (pv 2) (pa_cons (pv 1) pa_nil)))))))
      (pss_one (ps_ret (pv 1)))), ?_⟩
    refine ⟨_, rfl, a, rfl, pot, fun x0 H1 g1 d0 => ?_⟩
    refine ⟨_, rfl, a, 37, rfl, g1.1, by decide, by decide, fun r H2 r0 r37 g2 => ?_⟩
    refine ⟨r, rfl, by omega, by omega, for_range (lo := 0) (n := r.toNat) (fun i σ' H' => ∃ (x : V) (v : Option V), σ' = [some (.ref a), some x, v] ∧ Go a H H' ∧ DS CT CW (Off a H') (3 + i) x x) ?_ ?_ ?_⟩
    · exact ⟨x0, Option.none, rfl, g1.trans g2, d0.ext g2.off⟩
    · rintro i σ' H' hi ⟨x, v, rfl, go, ds⟩
      refine ⟨_, rfl, a, 2, rfl, go.1, by decide, by decide, fun q H3 q0 q2 g3 => ⟨rfl, _, rfl, ?_⟩⟩
      have go3 := go.trans g3
      have ds3 := ds.ext g3.off
      refine ite2 (fun _ => ?_) (fun _ => ?_)
      · refine ⟨_, rfl, _, rfl, by show 2 ≤ sizeLine; decide, fun t n => ?_⟩
        have gn := Go.new (o := .tup [x, .int (0 + (i : Int))]) go3.1 n
        refine ⟨_, _, rfl, go3.trans gn, DS.tupI (n := 3 + i) (xs := [x, .int (0 + (i : Int))]) ((off_at (go3.1.ne n).symm).trans upd_same) (by show 2 ≤ 100; decide) fun y hy => ?_⟩
        rcases List.mem_cons.mp hy with rfl | hy
        · exact ds3.ext gn.off
        · rw [List.mem_singleton.mp hy]
          exact DS.le (n := 1) (DS.at (.int _)) (by omega)
      · refine ⟨_, rfl, _, rfl, by show 2 ≤ sizeLine; decide, fun t n => ?_⟩
        have gn := Go.new (o := .lst [.int (0 + (i : Int)), x]) go3.1 n
        refine ⟨_, _, rfl, go3.trans gn, DS.lstI (n := 3 + i) (xs := [.int (0 + (i : Int)), x]) ((off_at (go3.1.ne n).symm).trans upd_same) (by show 2 ≤ 100; decide) fun y hy => ?_⟩
        rcases List.mem_cons.mp hy with rfl | hy
        · exact DS.le (n := 1) (DS.at (.int _)) (by omega)
        · rw [List.mem_singleton.mp hy]
          exact ds3.ext gn.off
    · rintro σ' H' ⟨x, v, rfl, go, ds⟩
      exact ⟨_, rfl, k x H' go (ds.le (by omega))⟩
end
end K9
set_option Elab.async false
set_option linter.all false
set_option maxRecDepth 100000
set_option maxHeartbeats 8000000
namespace K9
open PySem L2
/-- a loop over enumerate(a list) -/
theorem for_enumL {K : PySem.W.Frag} {a : Addr} {xs : List V} {g : TG} {tb : TS} {D : Ends} {τ : L2.St} {H : Hp} (Pv : Nat → L2.St → Hp → Prop) (h0 : Pv 0 τ H) (hl : ∀ i σ H, Pv i σ H → SqL K H a xs)
    (hs : ∀ (i : Nat) x σ H p, xs[i]? = some x → Pv i σ H → H p = Option.none → g (.ref p) σ (upd H p (.tup [.int (i : Nat), x])) fun σ2 H2 => tb { D with nx := Pv (i + 1), ct := Pv (i + 1), bk := D.nx } σ2 H2) (hd : ∀ σ H, Pv xs.length σ H → D.nx σ H) :
    ∃ W : Nat → Nat → L2.St → Hp → Prop, (∃ m, W 0 m τ H) ∧ ∀ i m σ H, W i m σ H → ((Ite K a).stop i H ∧ D.nx σ H) ∨ ((Ite K a).go i H ∧ ∃ N : L2.St → Hp → Prop, (∀ σ' H', N σ' H' → ∃ m', m' < m ∧ W (i + 1) m' σ' H') ∧ ∀ x H', (Ite K a).yld i H x H' → g x σ H' fun σ2 H2 => tb { D with nx := N, ct := N, bk := D.nx } σ2 H2) := by
  refine ⟨fun i m σ H => m + i = xs.length ∧ Pv i σ H, ⟨xs.length, rfl, h0⟩, ?_⟩
  rintro i m σ H ⟨em, p⟩
  have q := hl i σ H p
  cases m with
  | zero =>
    have e : i = xs.length := by omega
    subst e
    exact .inl ⟨⟨xs, q, Nat.le_refl _⟩, hd σ H p⟩
  | succ k =>
    have lt : i < xs.length := by omega
    have ei : xs[i]? = some xs[i] := List.getElem?_eq_getElem lt
    refine .inr ⟨⟨xs, _, q, ei⟩, Pv (i + 1), fun σ' H' p' => ⟨k, Nat.lt_succ_self k, by omega, p'⟩, fun v H' y => ?_⟩
    obtain ⟨t, x, rfl, nt, rfl, f1⟩ := y
    exact hs i x σ H t (f1 xs q) p nt
theorem lc_enumL {K : PySem.W.Frag} {a : Addr} {xs : List V} {g : TG} {tt : L2.TT} {te : TE} {vs : List Nat} {τ : L2.St} {H1 : Hp} {D : Addr} {Qd : Hp → Prop} (Pv : Nat → Hp → Prop) (h0 : Pv 0 (upd H1 D (.lst []))) (hq : ∀ i H, Pv i H → SqL K H a xs)
    (hs : ∀ i x t H, xs[i]? = some x → Pv i H → H t = Option.none → g (.ref t) (wipe τ vs) (upd H t (.tup [.int (i : Nat), x])) fun σ2 H2 => wipe σ2 vs = wipe τ vs ∧ tt σ2 H2 fun c H3 =>
      if c = true then te σ2 H3 fun z H4 => ∃ acc, H4 D = some (.lst acc) ∧ acc.length < sizeLine ∧ Pv (i + 1) (upd H4 D (.lst (acc ++ [z]))) else Pv (i + 1) H3) (hd : ∀ H, Pv xs.length H → Qd H) :
    ∃ W : Nat → Nat → Hp → Prop, (∃ m, W 0 m (upd H1 D (.lst []))) ∧ ∀ i m H, W i m H →
      ((Ite K a).stop i H ∧ Qd H) ∨ ((Ite K a).go i H ∧ ∃ Nx : Hp → Prop, (∀ H', Nx H' → ∃ m', m' < m ∧ W (i + 1) m' H') ∧ ∀ x H', (Ite K a).yld i H x H' → g x (wipe τ vs) H' fun σ2 H2 => wipe σ2 vs = wipe τ vs ∧ tt σ2 H2 fun c H3 =>
        if c = true then te σ2 H3 fun z H4 => ∃ acc, H4 D = some (.lst acc) ∧ acc.length < sizeLine ∧ Nx (upd H4 D (.lst (acc ++ [z]))) else Nx H3) := by
  refine ⟨fun i m H => m + i = xs.length ∧ Pv i H, ⟨xs.length, rfl, h0⟩, ?_⟩
  rintro i m H ⟨em, p⟩
  have q := hq i H p
  cases m with
  | zero =>
    have e : i = xs.length := by omega
    subst e
    exact .inl ⟨⟨xs, q, Nat.le_refl _⟩, hd H p⟩
  | succ k =>
    have lt : i < xs.length := by omega
    have ei : xs[i]? = some xs[i] := List.getElem?_eq_getElem lt
    refine .inr ⟨⟨xs, _, q, ei⟩, Pv (i + 1), fun H' p' => ⟨k, Nat.lt_succ_self k, by omega, p'⟩, fun v H' y => ?_⟩
    obtain ⟨t, x, rfl, nt, rfl, f1⟩ := y
    exact hs i x t H (f1 xs q) p nt
theorem marks_at {i j : Nat} (h : j < 33) : ((marksOf i).map V.bl)[j]? = some (.bl (decide (i = j))) := by
  unfold marksOf
  simp [h]
theorem one_list {K : PySem.W.Frag} {H : Hp} {p q : Addr} {i : Int} (h1 : H p = some (.lst [.int i])) (h2 : H q = some (.lst [.int i])) {Q : VK} (h : Q (.bl false) H) : rNeD K (.ref p) (.ref q) H Q := by
  refine ⟨.list [.int i], .list [.int i], .lst (SqL.of h1) (.cons (.int i) .nil), .lst (SqL.of h2) (.cons (.int i) .nil), ?_, ?_, ?_⟩
  · simp [SeqAt.shaped, PyData.canLay0, PyData.canLayAll0, PyData.depth, PyData.depthAll]
  · simp [SeqAt.shaped, PyData.canLay0, PyData.canLayAll0, PyData.depth, PyData.depthAll]
  · have e : PyData.eqv (.list [.int i]) (.list [.int i]) = true := by simp [PyData.eqv, PyData.eqvAll]
    rw [e]
    exact h
abbrev sLaw : Stmt := top 64
def spLaw (K : PySem.W.Frag) : Sp := fun vs H Q _ => ∃ (a : Addr) (ns : List Int), vs = [.ref a] ∧ SqL K H a (ns.map V.int) ∧ ns.length ≤ 63 ∧ ∀ H', Q (.bl true) H'
abbrev lawN : List Str := ["script", "hand", "lap", "thing", "other", "which", "errors", "at", "error", "marks", "here", "due", "alone", "place", "flag"]
abbrev lawN2 : List Str := ["script", "hand", "lap", "thing", "other", "which", "errors", "at", "error", "marks", "place", "flag", "here", "due", "alone"]
theorem scLaw : FnScope lawN2 ["script"] (defScope sLaw) := ⟨rfl, rfl, rfl, by decide +kernel, rfl, by decide +kernel, by decide +kernel⟩
end K9
set_option Elab.async false
set_option linter.all false
set_option maxRecDepth 100000
set_option maxHeartbeats 8000000
namespace K9
open PySem L2
theorem off_le {a : Addr} {H : Hp} : Ext (Off a H) H := fun b o h => (off_some h).2
section
variable {P : Program} {w : World} {K : PySem.W.Frag} {mg : Str → Option Value} {base : Heap} {c fi : Nat → Addr}
theorem ok_law {f CT CW : Addr} {fd : FuncData} (F : L2.Fun K "law" "law" sLaw f fd) (T : Gb mg) (C : ClsE K mg c fi) (N : Inis P w K mg base c fi)
    (cH : Cal P w K mg base 1 "_law_hand" (spPot K) []) (cD : Cal P w K mg base 1 "_law_draw" spDraw []) (cT : Cal P w K mg base 7 "_law_thing" (spThing CT CW) []) (cL : Cal P w K mg base 3 "_law_all" (spAll c) []) (cM : Cal P w K mg base 1 "_law_marks" (spMarks K c) [])
    (cN : Cal P w K mg base 1 "_law_is_alien" (spAlien c) []) (cF : Cal P w K mg base 1 "_law_fields" (spFields c) []) (cI : Cal P w K mg base 43 "_law_is" (spIs CT CW 41) []) (cG : Cal P w K mg base 4 "_law_caught" (spCaught c) []) (cB : Cal P w K mg base 4 "_law_based" spBased []) (cP : Cal P w K mg base 3 "_law_plain" spPlain []) :
    FnOk P w K mg base CX0 44 f fd ["script"] (spLaw K) := by
  refine F.ok scLaw (fun vs H Q E h => ?_) (fun cdv A outer s H vs Q E hr h => ?_)
  · obtain ⟨a, ns, rfl, _⟩ := h
    rfl
  · obtain ⟨sc, ns, rfl, hS, hlen, k⟩ := h
    have hr2 : Room 2 _ := hr.mono (by decide)
    have m33 : mg "WebError" = some (.ref (c 33)) := C.mgc 33 (by decide)
    obtain ⟨fd33, G33, B33⟩ := N.g33
    refine ⟨_, pss_cons (ps_set (i := 1) scLaw.nd rfl (Or.inl rfl) (C8.pe_c cH hr (by decide) (by rfl) (pa_cons (pv 0) pa_nil)))
      (pss_cons (ps_for PassesOwn.never rfl (pi_range1 (by rfl) T.rng (pa_cons pe_int pa_nil)) (pg_name (i := 2) scLaw.nd rfl (Or.inl rfl))
        (pss_cons (ps_par (i := 3) (j := 4) rfl scLaw.nd rfl rfl (by decide) rfl rfl (pa_cons (C8.pe_c cT hr (by decide) (by rfl) (pa_cons (pv 1) pa_nil)) (pa_cons (C8.pe_c cT hr (by decide) (by rfl) (pa_cons (pv 1) pa_nil)) pa_nil)) (by rfl))
        (pss_cons (ps_par (i := 5) (j := 6) rfl scLaw.nd rfl rfl (by decide) rfl rfl (pa_cons (C8.pe_c cD hr (by decide) (by rfl) (pa_cons (pv 1) (pa_cons pe_int pa_nil))) (pa_cons (C8.pe_c cL hr (by decide) (by rfl) (pa_cons (pv 3) (pa_cons (pv 4) pa_nil))) pa_nil)) (by rfl))
        (pss_cons (ps_for PassesOwn.never rfl (pi_enum (by rfl) T.enum (pa_cons (pv 6) pa_nil)) (pg_tup rfl (pgs_cons (pg_name (i := 7) scLaw.nd rfl (Or.inl rfl)) (pgs_cons (pg_name (i := 8) scLaw.nd rfl (Or.inl rfl)) pgs_nil)))
          (pss_cons (ps_set (i := 9) scLaw.nd rfl (Or.inl rfl) (C8.pe_c cM hr (by decide) (by rfl) (pa_cons (pv 8) pa_nil)))
          (pss_cons (ps_setLc (i := 12) (own := [("place", 10), ("flag", 11)]) (g := gTup K 2 (gCons (gName 10) (gCons (gName 11) gNil))) (tt := tB (tVar 11)) rfl scLaw.nd rfl rfl (sw_true rfl rfl rfl (by decide +kernel)) (pi_enum (by rfl) T.enum (pa_cons (pv 9) pa_nil)) (blkOk_by (N := lawN2) (sc := defScope sLaw) (by decide +kernel))
              (fun _ _ _ _ _ => pg_tup rfl (pgs_cons (pg_name (i := 10) scLaw.nd rfl (Or.inl rfl)) (pgs_cons (pg_name (i := 11) scLaw.nd rfl (Or.inl rfl)) pgs_nil))) (fun _ _ _ _ _ => pts_one (pt_val (pv 11))) (fun _ _ _ _ _ => pv 10))
          (pss_one (ps_if (PW.pt (pw_or (pt_cmpR (op_neD hr.units) (pv 12) (pe_lst (pa_cons (pv 7) pa_nil)) (nomark _)) (pw_or1 (pt_val (C8.pe_c cN hr (by decide) (by rfl) (pa_cons (pv 8) pa_nil)))))) (pss_one (ps_ret pe_bl)) pss_nil)))))
        (pss_cons (ps_if (pt_not (pt_val (C8.pe_c cI hr (by decide) (by rfl) (pa_cons (C8.pe_c cF hr (by decide) (by rfl) (pa_cons (pv 6) pa_nil)) (pa_cons (pe_op op_cat (pe_op op_rep (pe_lst (pa_cons (pv 3) pa_nil)) pe_int) (pe_lst (pa_cons (pv 4) pa_nil))) pa_nil))))) (pss_one (ps_ret pe_bl)) pss_nil)
        (C8.pss_cut (ps_set (i := 13) scLaw.nd rfl (Or.inl rfl) (pe_tup (pa_cons (pv 5) (pa_cons (pe_ifExp (pt_cmpR op_eq (pv 5) pe_int (nomark _)) (pe_lst (pa_cons (pv 3) (pa_cons (pv 4) pa_nil))) (pe_lst (pa_cons (pv 3) pa_nil))) pa_nil))))
        (pss_cons (ps_if (pt_not (pt_val (C8.pe_c cI hr (by decide) (by rfl) (pa_cons (C8.pe_c cG hr (by decide) (by rfl) (pa_cons (pv 5) (pa_cons (pv 3) (pa_cons (pv 4) pa_nil)))) (pa_cons (pv 13) pa_nil))))) (pss_one (ps_ret pe_bl)) pss_nil)
        (pss_cons (ps_if (pt_not (pt_val (C8.pe_c cB hr (by decide) (by rfl) (pa_cons (pv 5) (pa_cons (pv 3) (pa_cons (pv 4) pa_nil)))))) (pss_one (ps_ret pe_bl)) pss_nil)
        (pss_one (ps_if (pt_not (pt_val (C8.pe_c cP hr (by decide) (by rfl) (pa_cons (C8.pe_c cD hr (by decide) (by rfl) (pa_cons (pv 1) (pa_cons pe_int pa_nil))) pa_nil)))) (pss_one (ps_ret pe_bl)) pss_nil))))))))))
      (pss_cons (ps_set (i := 14) scLaw.nd rfl (Or.inl rfl) (pe_exv0 (C.ex 33 (by decide)) (C.iC 33 (by decide)) (C.tI 33 (by decide)) G33 hr2 B33 pass0 (by rfl) m33))
      (pss_cons (ps_if (pt_cmpR op_in_seq pe_bl (C8.pe_c cM hr (by decide) (by rfl) (pa_cons (pv 14) pa_nil)) (by rfl)) (pss_one (ps_ret pe_bl)) pss_nil)
      (pss_one (ps_ret (pe_callB call_isV (by rfl) T.isi (by decide +kernel) (pa_cons (pv 14) (pa_cons (pe_bltn (v := .ty "ValueError") (by rfl) T.ve (by decide +kernel) rfl) pa_nil)))))))), ?_⟩
    refine ⟨_, rfl, sc, ns, rfl, hS, hlen, fun a H1 e1 pot => ?_⟩
    refine ⟨2, rfl, by decide, by decide, for_range (lo := 0) (n := 2) (fun _ σ' H' => (∃ v2 v3 v4 v5 v6 v7 v8 v9 v10 v11 v12 v13 v14 : Option V, σ' = [some (.ref sc), some (.ref a), v2, v3, v4, v5, v6, v7, v8, v9, v10, v11, v12, v13, v14]) ∧ PotAt H' a) ⟨⟨_, _, _, _, _, _, _, _, _, _, _, _, _, rfl⟩, pot⟩ ?_ ?_⟩
    · rintro i σ' H' hi ⟨⟨v2, v3, v4, v5, v6, v7, v8, v9, v10, v11, v12, v13, v14, rfl⟩, pt⟩
      refine ⟨_, rfl, a, rfl, pt, fun x H2 g2 dx => ⟨_, rfl, a, rfl, g2.1, fun y H3 g3 dy => ⟨_, _, rfl, ?_⟩⟩⟩
      refine ⟨_, rfl, a, 8, rfl, g3.1, by decide, by decide, fun w0 H4 w0l w0h g4 => ⟨_, rfl, _, rfl, x, y, rfl, fun r as H5 e5 hr5 len5 all5 => ⟨_, _, rfl, ?_⟩⟩⟩
      obtain ⟨w1, rfl⟩ : ∃ n : Nat, w0 = (n : Int) := ⟨w0.toNat, by omega⟩
      have hw : w1 < 8 := by omega
      have dx5 : DS CT CW H5 39 x x := ((dx.ext (g3.off.trans g4.off)).ext off_le).ext e5
      have dy5 : DS CT CW H5 39 y y := ((dy.ext g4.off).ext off_le).ext e5
      have pot5 : PotAt H5 a := (Go.of_ext g4.1 e5).1
      clear dx dy g2 g3 g4 e5 w0l w0h
      refine ⟨_, rfl, r, _, rfl, SqL.of hr5, for_enumL (K := K) (a := r) (xs := as.map V.ref) (fun _ σ' H' => (∃ u7 u8 u9 u10 u11 u12 u13 u14 : Option V, σ' = [some (.ref sc), some (.ref a), some (.int (0 + (i : Int))), some x, some y, some (.int (w1 : Int)), some (.ref r), u7, u8, u9, u10, u11, u12, u13, u14]) ∧ Ext H5 H') ⟨⟨_, _, _, _, _, _, _, _, rfl⟩, Ext.rfl'⟩ (fun i σ' H' h => SqL.of (h.2 _ _ hr5)) ?_ ?_⟩
      · rintro j z σ' H6 t hz ⟨⟨u7, u8, u9, u10, u11, u12, u13, u14, rfl⟩, ex⟩ nt
        have hj : j < 33 := by
          have q := (List.getElem?_eq_some_iff.mp hz).1
          rw [List.length_map] at q
          omega
        obtain ⟨aj, haj, rfl⟩ : ∃ aj, as[j]? = some aj ∧ z = .ref aj := by
          rw [List.getElem?_map] at hz
          cases q : as[j]? with
          | none =>
            rw [q] at hz
            cases hz
          | some aj =>
            rw [q] at hz
            exact ⟨aj, rfl, (Option.some.inj hz).symm⟩
        have eT : Ext H6 (upd H6 t (.tup [.int (j : Nat), .ref aj])) := Ext.upd nt
        have ex6 := ex.trans eT
        refine ⟨t, _, rfl, SqT.of upd_same, rfl, _, _, rfl, _, _, rfl, rfl, ?_⟩
        refine ⟨_, rfl, aj, j, _, rfl, by omega, (all5 j aj haj).ext ex6, fun m H7 e7 hm => ?_⟩
        have ex7 := ex6.trans e7
        refine ⟨_, rfl, m, _, rfl, SqL.of hm, fun D nD => lc_enumL (K := K) (a := m) (xs := (marksOf j).map V.bl) (fun q H8 => Ext H7 H8 ∧ H8 D = some (.lst (if j < q then [V.int (j : Int)] else []))) ⟨Ext.upd nD, by rw [upd_same, if_neg (Nat.not_lt_zero j)]⟩ (fun q H8 p => SqL.of (p.1 _ _ hm)) ?_ ?_⟩
        · rintro q v t2 H8 hv ⟨ex8, hD⟩ nt2
          have hq : q < 33 := by
            have l := (List.getElem?_eq_some_iff.mp hv).1
            rw [List.length_map] at l
            unfold marksOf at l
            rw [List.length_map, List.length_range] at l
            exact l
          obtain rfl : v = .bl (decide (j = q)) := Option.some.inj (hv.symm.trans (marks_at hq))
          have e8 : Ext H8 (upd H8 t2 (.tup [.int (q : Nat), .bl (decide (j = q))])) := Ext.upd nt2
          refine ⟨t2, _, rfl, SqT.of upd_same, rfl, _, _, rfl, _, _, rfl, rfl, rfl, ?_⟩
          refine ⟨_, rfl, _, rfl, ?_⟩
          refine ite2 (fun e => ?_) (fun e => ?_)
          · obtain rfl : j = q := of_decide_eq_true e
            rw [if_neg (Nat.lt_irrefl j)] at hD
            refine ⟨_, rfl, _, e8 _ _ hD, by decide, fun b' o eo => by rw [upd_ne (ne_of_none eo nD)]; exact (ex8.trans e8) _ _ eo, ?_⟩
            rw [upd_same, if_pos (Nat.lt_succ_self j)]
            rfl
          · have ne : ¬ j = q := fun z => e (decide_eq_true z)
            refine ⟨ex8.trans e8, (e8 _ _ hD).trans ?_⟩
            by_cases l : j < q
            · rw [if_pos l, if_pos (by omega)]
            · rw [if_neg l, if_neg (by omega)]
        · rintro H8 ⟨ex8, hD⟩
          have l33 : ((marksOf j).map V.bl).length = 33 := by
            unfold marksOf
            simp
          rw [l33, if_pos hj] at hD
          refine ⟨_, rfl, _, rfl, by show 1 ≤ sizeLine; decide, fun l n => ?_⟩
          have e8 : Ext H8 (upd H8 l (.lst [.int (j : Int)])) := Ext.upd n
          refine one_list (i := (j : Int)) (e8 _ _ hD) upd_same ?_
          refine ⟨_, rfl, iteF ?_⟩
          have ex9 := ex7.trans (ex8.trans e8)
          refine ⟨_, rfl, aj, j, _, rfl, by omega, (all5 j aj haj).ext ex9, fun H9 e9 => ⟨_, rfl, iteF ?_⟩⟩
          exact ⟨⟨_, _, _, _, _, _, _, _, rfl⟩, ex9.trans e9⟩
      · rintro σ' H6 ⟨⟨u7, u8, u9, u10, u11, u12, u13, u14, rfl⟩, ex⟩
        refine ⟨_, rfl, r, as, x, y, rfl, ex _ _ hr5, len5, all5.ext ex, fun l H7 e7 hl => ?_⟩
        have ex7 := ex.trans e7
        refine ⟨_, rfl, by show 1 ≤ sizeLine; decide, fun l2 n2 => ?_⟩
        have d2 : Ext H7 (upd H7 l2 (.lst [x])) := Ext.upd n2
        have g2 : upd H7 l2 (.lst [x]) l2 = some (.lst [x]) := upd_same
        generalize upd H7 l2 (.lst [x]) = A2 at *
        refine ⟨l2, 8, [x], rfl, rfl, g2, by decide, by decide, by show 8 ≤ sizeLine; decide, fun l3 n3 => ?_⟩
        have d3 : Ext A2 (upd A2 l3 (.lst (List.replicate (8 : Int).toNat [x]).flatten)) := Ext.upd n3
        have g3 : upd A2 l3 (.lst (List.replicate (8 : Int).toNat [x]).flatten) l3 = some (.lst [x, x, x, x, x, x, x, x]) := upd_same
        generalize upd A2 l3 (.lst (List.replicate (8 : Int).toNat [x]).flatten) = A3 at *
        refine ⟨_, rfl, by show 1 ≤ sizeLine; decide, fun l4 n4 => ?_⟩
        have d4 : Ext A3 (upd A3 l4 (.lst [y])) := Ext.upd n4
        have g4 : upd A3 l4 (.lst [y]) l4 = some (.lst [y]) := upd_same
        generalize upd A3 l4 (.lst [y]) = A4 at *
        refine ⟨l3, l4, [x, x, x, x, x, x, x, x], [y], rfl, rfl, d4 _ _ g3, g4, by show 9 ≤ sizeLine; decide, fun l5 n5 => ?_⟩
        have d5 : Ext A4 (upd A4 l5 (.lst ([x, x, x, x, x, x, x, x] ++ [y]))) := Ext.upd n5
        have g5 : upd A4 l5 (.lst ([x, x, x, x, x, x, x, x] ++ [y])) l5 = some (.lst [x, x, x, x, x, x, x, x, y]) := upd_same
        generalize upd A4 l5 (.lst ([x, x, x, x, x, x, x, x] ++ [y])) = A5 at *
        have dA : Ext H7 A5 := d2.trans (d3.trans (d4.trans d5))
        have exA := ex7.trans dA
        refine ⟨.ref l, .ref l5, rfl, .inr ⟨l, l5, _, _, rfl, rfl, .inr ⟨dA _ _ hl, g5⟩, by show 9 ≤ 100; decide, paired_refl fun q hq => ?_⟩, fun H8 e8 => ⟨_, rfl, iteF ?_⟩⟩
        · simp only [List.mem_cons, List.not_mem_nil, or_false] at hq
          rcases hq with rfl | rfl | rfl | rfl | rfl | rfl | rfl | rfl | rfl
          all_goals first | exact (dx5.ext exA).up | exact (dy5.ext exA).up
        have ex8 := exA.trans e8
        clear exA dA d2 d3 d4 d5 g2 g3 g4 g5 n2 n3 n4 n5 ex7 e7 hl
        refine ⟨fun σ' H' => (∃ (dt dl : Addr) (u7 u8 u9 u10 u11 u12 u14 : Option V), σ' = [some (.ref sc), some (.ref a), some (.int (0 + (i : Int))), some x, some y, some (.int (w1 : Int)), some (.ref r), u7, u8, u9, u10, u11, u12, some (.ref dt), u14] ∧ H' dt = some (.tup [.int (w1 : Int), .ref dl]) ∧ H' dl = some (.lst (kept w1 x y))) ∧ Ext H5 H', ?_, ?_⟩
        · refine ⟨_, rfl, _, rfl, rfl, _, rfl, ?_⟩
          refine ite2 (fun z => ?_) (fun z => ?_)
          · have e7 : w1 = 7 := by
              have q := of_decide_eq_true z
              injection q with q
              omega
            refine ⟨_, rfl, _, rfl, by show 2 ≤ sizeLine; decide, fun dl n1 => ⟨by show 2 ≤ sizeLine; decide, fun dt n2 => ?_⟩⟩
            exact ⟨⟨dt, dl, _, _, _, _, _, _, _, rfl, upd_same, by rw [upd_ne (ne_of_none upd_same n2), upd_same, kept, if_pos e7]⟩, ex8.trans ((Ext.upd n1).trans (Ext.upd n2))⟩
          · have e7 : ¬ w1 = 7 := fun q => z (decide_eq_true (by rw [q]; rfl))
            refine ⟨_, rfl, by show 1 ≤ sizeLine; decide, fun dl n1 => ⟨by show 2 ≤ sizeLine; decide, fun dt n2 => ?_⟩⟩
            exact ⟨⟨dt, dl, _, _, _, _, _, _, _, rfl, upd_same, by rw [upd_ne (ne_of_none upd_same n2), upd_same, kept, if_neg e7]⟩, ex8.trans ((Ext.upd n1).trans (Ext.upd n2))⟩
        · rintro σ' H9 ⟨⟨dt, dl, v7, v8, v9, v10, v11, v12, v14, rfl, hdt, hdl⟩, ex9⟩
          refine ⟨_, rfl, _, rfl, _, rfl, w1, x, y, rfl, hw, fun rt rl H10 e10 h1 h2 => ?_⟩
          have ex10 := ex9.trans e10
          have kp : ∀ q ∈ kept w1 x y, DS CT CW H10 39 q q := fun q hq => by
            unfold kept at hq
            split at hq
            · rcases List.mem_cons.mp hq with rfl | hq
              · exact dx5.ext ex10
              · rw [List.mem_singleton.mp hq]
                exact dy5.ext ex10
            · rw [List.mem_singleton.mp hq]
              exact dx5.ext ex10
          have lk : (kept w1 x y).length ≤ 100 := by
            unfold kept
            split
            · show 2 ≤ 100
              decide
            · show 1 ≤ 100
              decide
          have ds : DS CT CW H10 41 (.ref rt) (.ref dt) := by
            refine .inr ⟨rt, dt, _, _, rfl, rfl, .inl ⟨h1, e10 _ _ hdt⟩, by show 2 ≤ 100; decide, .cons (DS.at (.int _)) (.cons ?_ .nil)⟩
            exact .inr ⟨rl, dl, _, _, rfl, rfl, .inr ⟨h2, e10 _ _ hdl⟩, lk, paired_refl kp⟩
          refine ⟨_, rfl, .ref rt, .ref dt, rfl, ds, fun H11 e11 => ⟨_, rfl, iteF ?_⟩⟩
          refine ⟨_, rfl, _, rfl, _, rfl, w1, x, y, rfl, hw, fun H12 e12 => ⟨_, rfl, iteF ?_⟩⟩
          have pot12 : PotAt H12 a := (Go.of_ext pot5 (ex10.trans (e11.trans e12))).1
          refine ⟨_, rfl, a, 7, rfl, pot12, by decide, by decide, fun q H13 _ _ g13 => ⟨q, rfl, _, rfl, iteF ?_⟩⟩
          exact ⟨⟨_, _, _, _, _, _, _, _, _, _, _, _, _, rfl⟩, g13.1⟩
    · rintro σ' H' ⟨⟨v2, v3, v4, v5, v6, v7, v8, v9, v10, v11, v12, v13, v14, rfl⟩, pt⟩
      refine ⟨by show 0 ≤ 1000; decide, mk0 fun o H2 e2 ho => ?_⟩
      refine ⟨_, rfl, o, 33, _, rfl, by decide, ho, fun r H3 e3 hr3 => ?_⟩
      refine ⟨r, _, rfl, .inl (SqL.of hr3), rfl, by decide +kernel, _, rfl, ?_⟩
      have z : inV (.bl true) ((marksOf 33).map V.bl) = false := by decide +kernel
      have e4 : (if (false : Bool) = true then !inV (.bl true) ((marksOf 33).map V.bl) else inV (.bl true) ((marksOf 33).map V.bl)) = false := z
      rw [e4]
      refine iteF ?_
      exact ⟨_, rfl, o, c 33, _, _, .type "ValueError", true, rfl, .ty _, C.is 33 (by decide), ho.ext e3, C.ve 33 (by decide), k _⟩
end
end K9
set_option Elab.async false
set_option linter.all false
set_option maxRecDepth 100000
set_option maxHeartbeats 8000000
namespace K9
open PySem L2
/-! ### What the top has written -/
theorem exm_self {K : PySem.W.Frag} {S : Addr} (h1 : PySem.W.subIn K (.ref S) (.type "BaseException") = some true) (h2 : PySem.W.isClsIn K S = true) (h3 : PySem.W.typeIn K (.ref S) = some (.type "type")) (h4 : PySem.W.subIn K (.ref S) (.ref S) = some true) :
    PySem.W.exmOne K (.ref S) (.ref S) = some true := by
  have h2' : (PySem.W.clsIn K S).isSome = true := h2
  unfold PySem.W.exmOne PySem.W.kitCls
  simp only [h1, h2', h3, h4, beq_self_eq_true, Bool.and_self, if_true]
theorem kit_ref {K : PySem.W.Frag} {t : Value} {C : Addr} {b : Bool} (h2 : PySem.W.isClsIn K C = true) (h3 : PySem.W.typeIn K (.ref C) = some (.type "type")) (h4 : PySem.W.subIn K (.ref C) (.ref C) = some true) (h5 : PySem.W.subIn K t (.ref C) = some b) :
    PySem.W.kitOne K t (.ref C) = some b := by
  have h2' : (PySem.W.clsIn K C).isSome = true := h2
  unfold PySem.W.kitOne PySem.W.kitCls
  by_cases e : (t == .ref C) = true
  · have e' := beq_iff_eq.mp e
    subst e'
    rw [h4] at h5
    rw [if_pos e, ← h5]
  · rw [if_neg e]
    simp only [h2', h3, h5, beq_self_eq_true, Bool.and_self, if_true]
theorem kit_tyc {K : PySem.W.Frag} {C : Addr} {s : String} {b : Bool} (h : PySem.W.kitMeta s = true) (h5 : PySem.W.subIn K (.ref C) (.type s) = some b) : PySem.W.kitOne K (.ref C) (.type s) = some b := by
  unfold PySem.W.kitOne PySem.W.kitCls
  rw [if_neg (by intro z; exact nomatch beq_iff_eq.mp z)]
  simp only [h, h5, if_true]
theorem exm_ref {K : PySem.W.Frag} {t : Value} {S : Addr} {b : Bool} (h1 : PySem.W.subIn K (.ref S) (.type "BaseException") = some true) (h2 : PySem.W.isClsIn K S = true) (h3 : PySem.W.typeIn K (.ref S) = some (.type "type")) (h4 : PySem.W.subIn K t (.ref S) = some b) :
    PySem.W.exmOne K t (.ref S) = some b := by
  have h2' : (PySem.W.clsIn K S).isSome = true := h2
  unfold PySem.W.exmOne PySem.W.kitCls
  simp only [h1, h2', h3, h4, beq_self_eq_true, Bool.and_self, if_true]
def OexCls (K : PySem.W.Frag) (C : Addr) : Prop := ∃ nm q N bs bm sn sub ab col dd k0 k1 k2 k3 k5, K.lookup C = some (excClassObj nm q C N bs bm true sn sub ab col dd k0 k1 k2 k3 k5 "ValueError.__new__") ∧ PySem.HandSPX.refsVE bm = true
/-- what the top has written of each class of errors alike -/
structure OkC (K : PySem.W.Frag) (C : Addr) : Prop where
  ic : PySem.W.isClsIn K C = true
  ty : PySem.W.typeIn K (.ref C) = some (.type "type")
  ex : PySem.W.subIn K (.ref C) (.type "BaseException") = some true
  kp : PySem.W.keepIn K (.ref C) = true
  hd : PySem.W.hasDictIn K C = true
  sa : PySem.W.findIn K (.ref C) "__setattr__" = some (some (.builtin "object.__setattr__"))
  ga : PySem.W.findIn K (.ref C) "__getattribute__" = some (some (.builtin "BaseException.__getattribute__"))
  gg : PySem.W.findIn K (.ref C) "__getattr__" = some none
  ha : PySem.W.findIn K (.ref C) "__class__" = some (some (.builtin "object.__class__"))
  hm : PySem.W.mroIn K C (.type "object") = some true
  v1 : PySem.W.subIn K (.ref C) (.type "ValueError") = some true
  v2 : PySem.W.subIn K (.ref C) (.type "LookupError") = some false
  v3 : PySem.W.subIn K (.ref C) (.type "ArithmeticError") = some false
  v4 : PySem.W.subIn K (.ref C) (.type "TypeError") = some false
abbrev OkP (K : PySem.W.Frag) (C : Addr) : Prop := PySem.W.isClsIn K C = true ∧ PySem.W.typeIn K (.ref C) = some (.type "type") ∧ PySem.W.subIn K (.ref C) (.type "BaseException") = some true ∧ PySem.W.keepIn K (.ref C) = true ∧ PySem.W.hasDictIn K C = true ∧
  PySem.W.findIn K (.ref C) "__setattr__" = some (some (.builtin "object.__setattr__")) ∧ PySem.W.findIn K (.ref C) "__getattribute__" = some (some (.builtin "BaseException.__getattribute__")) ∧ PySem.W.findIn K (.ref C) "__getattr__" = some none ∧
  PySem.W.findIn K (.ref C) "__class__" = some (some (.builtin "object.__class__")) ∧ PySem.W.mroIn K C (.type "object") = some true ∧ PySem.W.subIn K (.ref C) (.type "ValueError") = some true ∧ PySem.W.subIn K (.ref C) (.type "LookupError") = some false ∧
  PySem.W.subIn K (.ref C) (.type "ArithmeticError") = some false ∧ PySem.W.subIn K (.ref C) (.type "TypeError") = some false
instance (K : PySem.W.Frag) (C : Addr) : Decidable (OkC K C) := decidable_of_iff (OkP K C) ⟨fun ⟨a, b, c, d, e, f, g, h, i, j, k, l, m, n⟩ => ⟨a, b, c, d, e, f, g, h, i, j, k, l, m, n⟩, fun q => ⟨q.ic, q.ty, q.ex, q.kp, q.hd, q.sa, q.ga, q.gg, q.ha, q.hm, q.v1, q.v2, q.v3, q.v4⟩⟩
def okC (K : PySem.W.Frag) (C : Addr) : Bool := decide (OkC K C)
def pairsOk (K : PySem.W.Frag) (l : List Addr) : Bool := (List.range 34).all fun i => (List.range 34).all fun j => decide (PySem.W.subIn K (.ref (l.getD i 0)) (.ref (l.getD j 0)) = some (decide (i = j) || decide (j = 33)))
theorem pairs_of {K : PySem.W.Frag} {l : List Addr} (h : pairsOk K l = true) {i j : Nat} (hi : i < 34) (hj : j < 34) : PySem.W.subIn K (.ref (l.getD i 0)) (.ref (l.getD j 0)) = some (decide (i = j) || decide (j = 33)) := by
  unfold pairsOk at h
  exact of_decide_eq_true (List.all_eq_true.mp (List.all_eq_true.mp h i (List.mem_range.mpr hi)) j (List.mem_range.mpr hj))
theorem getD_mem {l : List Addr} {i : Nat} {d : Addr} (h : i < l.length) : l.getD i d ∈ l := by
  rw [List.getD_eq_getElem?_getD, List.getElem?_eq_getElem h]
  exact List.getElem_mem h
theorem getD_ge {a b c d e f g h x : Addr} {i : Nat} (hi : 8 ≤ i) : [a, b, c, d, e, f, g, h].getD i x = x := by
  rw [List.getD_eq_getElem?_getD, List.getElem?_eq_none (by simpa using hi)]
  rfl
theorem getD_drop {l : List Addr} {i n : Nat} {d : Addr} (h8 : n ≤ i) (h : i < l.length) : l.getD i d ∈ l.drop n := by
  rw [List.getD_eq_getElem?_getD, List.getElem?_eq_getElem h]
  have e : (l.drop n)[i - n]? = some l[i] := by
    rw [List.getElem?_drop, show n + (i - n) = i by omega, List.getElem?_eq_getElem h]
  exact List.mem_of_getElem? e
theorem all_mk {l : PySem.W.OpenLaw} {w : World} {K : PySem.W.Frag} {h : Heap} {mg : Str → Option Value} {fa CW CT aP C0 C1 C2 C3 C4 C5 C6 C7 C8 C9 C10 C11 C12 C13 C14 C15 C16 C17 C18 C19 C20 C21 C22 C23 C24 C25 C26 C27 C28 C29 C30 C31 C32 C33 f37 f38 f39 f40 f48 f50 f51 f52 f53 f54 f55 f56 f57 f58 f59 f60 f61 f62 f63 f64 fI0 fI1 fI2 fI3 fI4 fI5 fI6 fI7 fI33 fT fU fW fE : Addr} (X : K.In h) (G : h.Ns mainGlobals mg) (hfa : mg "law" = some (.ref fa))
    {od37 an37 od38 an38 od39 an39 od40 an40 od48 an48 od50 an50 od51 an51 od52 an52 od53 an53 od54 an54 od55 an55 od56 an56 od57 an57 od58 an58 od59 an59 od60 an60 od61 an61 od62 an62 od63 an63 od64 an64 odI0 anI0 odI1 anI1 odI2 anI2 odI3 anI3 odI4 anI4 odI5 anI5 odI6 anI6 odI7 anI7 odI33 anI33 odT anT odU anU odW anW odE anE : Option Addr} {sl37 sl38 sl39 sl40 sl48 sl50 sl51 sl52 sl53 sl54 sl55 sl56 sl57 sl58 sl59 sl60 sl61 sl62 sl63 sl64 slI0 slI1 slI2 slI3 slI4 slI5 slI6 slI7 slI33 slT slU slW slE : Array (Option Value)}
    {oc37 kV37 dc37 pm37 cd37 ct37 oc38 kV38 dc38 pm38 cd38 ct38 oc39 kV39 dc39 pm39 cd39 ct39 oc40 kV40 dc40 pm40 cd40 ct40 oc48 kV48 dc48 pm48 cd48 ct48 oc50 kV50 dc50 pm50 cd50 ct50 oc51 kV51 dc51 pm51 cd51 ct51 oc52 kV52 dc52 pm52 cd52 ct52 oc53 kV53 dc53 pm53 cd53 ct53 oc54 kV54 dc54 pm54 cd54 ct54 oc55 kV55 dc55 pm55 cd55 ct55 oc56 kV56 dc56 pm56 cd56 ct56 oc57 kV57 dc57 pm57 cd57 ct57 oc58 kV58 dc58 pm58 cd58 ct58 oc59 kV59 dc59 pm59 cd59 ct59 oc60 kV60 dc60 pm60 cd60 ct60 oc61 kV61 dc61 pm61 cd61 ct61 oc62 kV62 dc62 pm62 cd62 ct62 oc63 kV63 dc63 pm63 cd63 ct63 oc64 kV64 dc64 pm64 cd64 ct64 ocI0 kVI0 dcI0 pmI0 cdI0 ctI0 ocI1 kVI1 dcI1 pmI1 cdI1 ctI1 ocI2 kVI2 dcI2 pmI2 cdI2 ctI2 ocI3 kVI3 dcI3 pmI3 cdI3 ctI3 ocI4 kVI4 dcI4 pmI4 cdI4 ctI4 ocI5 kVI5 dcI5 pmI5 cdI5 ctI5 ocI6 kVI6 dcI6 pmI6 cdI6 ctI6 ocI7 kVI7 dcI7 pmI7 cdI7 ctI7 ocI33 kVI33 dcI33 pmI33 cdI33 ctI33 ocT kVT dcT pmT cdT ctT ocU kVU dcU pmU cdU ctU ocW kVW dcW pmW cdW ctW ocE kVE dcE pmE cdE ctE : Value}
    {nm0 q0 : Str} {N0 : Addr} {bs0 bm0 : List Value} {sn0 : List Str} {sub0 : List Value} {ab0 : Bool} {col0 : Option Bool} {dd0 : Option Addr} {k00x k10x k20x k30x k50x : Option Value}
    {nm1 q1 : Str} {N1 : Addr} {bs1 bm1 : List Value} {sn1 : List Str} {sub1 : List Value} {ab1 : Bool} {col1 : Option Bool} {dd1 : Option Addr} {k01x k11x k21x k31x k51x : Option Value}
    {nm2 q2 : Str} {N2 : Addr} {bs2 bm2 : List Value} {sn2 : List Str} {sub2 : List Value} {ab2 : Bool} {col2 : Option Bool} {dd2 : Option Addr} {k02x k12x k22x k32x k52x : Option Value}
    {nm3 q3 : Str} {N3 : Addr} {bs3 bm3 : List Value} {sn3 : List Str} {sub3 : List Value} {ab3 : Bool} {col3 : Option Bool} {dd3 : Option Addr} {k03x k13x k23x k33x k53x : Option Value}
    {nm4 q4 : Str} {N4 : Addr} {bs4 bm4 : List Value} {sn4 : List Str} {sub4 : List Value} {ab4 : Bool} {col4 : Option Bool} {dd4 : Option Addr} {k04x k14x k24x k34x k54x : Option Value}
    {nm5 q5 : Str} {N5 : Addr} {bs5 bm5 : List Value} {sn5 : List Str} {sub5 : List Value} {ab5 : Bool} {col5 : Option Bool} {dd5 : Option Addr} {k05x k15x k25x k35x k55x : Option Value}
    {nm6 q6 : Str} {N6 : Addr} {bs6 bm6 : List Value} {sn6 : List Str} {sub6 : List Value} {ab6 : Bool} {col6 : Option Bool} {dd6 : Option Addr} {k06x k16x k26x k36x k56x : Option Value}
    {nm7 q7 : Str} {N7 : Addr} {bs7 bm7 : List Value} {sn7 : List Str} {sub7 : List Value} {ab7 : Bool} {col7 : Option Bool} {dd7 : Option Addr} {k07x k17x k27x k37x k57x : Option Value}
    {nm8 q8 : Str} {N8 : Addr} {bs8 bm8 : List Value} {sn8 : List Str} {sub8 : List Value} {ab8 : Bool} {col8 : Option Bool} {dd8 : Option Addr} {k08x k18x k28x k38x k58x : Option Value}
    {nm9 q9 : Str} {N9 : Addr} {bs9 bm9 : List Value} {sn9 : List Str} {sub9 : List Value} {ab9 : Bool} {col9 : Option Bool} {dd9 : Option Addr} {k09x k19x k29x k39x k59x : Option Value}
    {nm10 q10 : Str} {N10 : Addr} {bs10 bm10 : List Value} {sn10 : List Str} {sub10 : List Value} {ab10 : Bool} {col10 : Option Bool} {dd10 : Option Addr} {k010x k110x k210x k310x k510x : Option Value}
    {nm11 q11 : Str} {N11 : Addr} {bs11 bm11 : List Value} {sn11 : List Str} {sub11 : List Value} {ab11 : Bool} {col11 : Option Bool} {dd11 : Option Addr} {k011x k111x k211x k311x k511x : Option Value}
    {nm12 q12 : Str} {N12 : Addr} {bs12 bm12 : List Value} {sn12 : List Str} {sub12 : List Value} {ab12 : Bool} {col12 : Option Bool} {dd12 : Option Addr} {k012x k112x k212x k312x k512x : Option Value}
    {nm13 q13 : Str} {N13 : Addr} {bs13 bm13 : List Value} {sn13 : List Str} {sub13 : List Value} {ab13 : Bool} {col13 : Option Bool} {dd13 : Option Addr} {k013x k113x k213x k313x k513x : Option Value}
    {nm14 q14 : Str} {N14 : Addr} {bs14 bm14 : List Value} {sn14 : List Str} {sub14 : List Value} {ab14 : Bool} {col14 : Option Bool} {dd14 : Option Addr} {k014x k114x k214x k314x k514x : Option Value}
    {nm15 q15 : Str} {N15 : Addr} {bs15 bm15 : List Value} {sn15 : List Str} {sub15 : List Value} {ab15 : Bool} {col15 : Option Bool} {dd15 : Option Addr} {k015x k115x k215x k315x k515x : Option Value}
    {nm16 q16 : Str} {N16 : Addr} {bs16 bm16 : List Value} {sn16 : List Str} {sub16 : List Value} {ab16 : Bool} {col16 : Option Bool} {dd16 : Option Addr} {k016x k116x k216x k316x k516x : Option Value}
    {nm17 q17 : Str} {N17 : Addr} {bs17 bm17 : List Value} {sn17 : List Str} {sub17 : List Value} {ab17 : Bool} {col17 : Option Bool} {dd17 : Option Addr} {k017x k117x k217x k317x k517x : Option Value}
    {nm18 q18 : Str} {N18 : Addr} {bs18 bm18 : List Value} {sn18 : List Str} {sub18 : List Value} {ab18 : Bool} {col18 : Option Bool} {dd18 : Option Addr} {k018x k118x k218x k318x k518x : Option Value}
    {nm19 q19 : Str} {N19 : Addr} {bs19 bm19 : List Value} {sn19 : List Str} {sub19 : List Value} {ab19 : Bool} {col19 : Option Bool} {dd19 : Option Addr} {k019x k119x k219x k319x k519x : Option Value}
    {nm20 q20 : Str} {N20 : Addr} {bs20 bm20 : List Value} {sn20 : List Str} {sub20 : List Value} {ab20 : Bool} {col20 : Option Bool} {dd20 : Option Addr} {k020x k120x k220x k320x k520x : Option Value}
    {nm21 q21 : Str} {N21 : Addr} {bs21 bm21 : List Value} {sn21 : List Str} {sub21 : List Value} {ab21 : Bool} {col21 : Option Bool} {dd21 : Option Addr} {k021x k121x k221x k321x k521x : Option Value}
    {nm22 q22 : Str} {N22 : Addr} {bs22 bm22 : List Value} {sn22 : List Str} {sub22 : List Value} {ab22 : Bool} {col22 : Option Bool} {dd22 : Option Addr} {k022x k122x k222x k322x k522x : Option Value}
    {nm23 q23 : Str} {N23 : Addr} {bs23 bm23 : List Value} {sn23 : List Str} {sub23 : List Value} {ab23 : Bool} {col23 : Option Bool} {dd23 : Option Addr} {k023x k123x k223x k323x k523x : Option Value}
    {nm24 q24 : Str} {N24 : Addr} {bs24 bm24 : List Value} {sn24 : List Str} {sub24 : List Value} {ab24 : Bool} {col24 : Option Bool} {dd24 : Option Addr} {k024x k124x k224x k324x k524x : Option Value}
    {nm25 q25 : Str} {N25 : Addr} {bs25 bm25 : List Value} {sn25 : List Str} {sub25 : List Value} {ab25 : Bool} {col25 : Option Bool} {dd25 : Option Addr} {k025x k125x k225x k325x k525x : Option Value}
    {nm26 q26 : Str} {N26 : Addr} {bs26 bm26 : List Value} {sn26 : List Str} {sub26 : List Value} {ab26 : Bool} {col26 : Option Bool} {dd26 : Option Addr} {k026x k126x k226x k326x k526x : Option Value}
    {nm27 q27 : Str} {N27 : Addr} {bs27 bm27 : List Value} {sn27 : List Str} {sub27 : List Value} {ab27 : Bool} {col27 : Option Bool} {dd27 : Option Addr} {k027x k127x k227x k327x k527x : Option Value}
    {nm28 q28 : Str} {N28 : Addr} {bs28 bm28 : List Value} {sn28 : List Str} {sub28 : List Value} {ab28 : Bool} {col28 : Option Bool} {dd28 : Option Addr} {k028x k128x k228x k328x k528x : Option Value}
    {nm29 q29 : Str} {N29 : Addr} {bs29 bm29 : List Value} {sn29 : List Str} {sub29 : List Value} {ab29 : Bool} {col29 : Option Bool} {dd29 : Option Addr} {k029x k129x k229x k329x k529x : Option Value}
    {nm30 q30 : Str} {N30 : Addr} {bs30 bm30 : List Value} {sn30 : List Str} {sub30 : List Value} {ab30 : Bool} {col30 : Option Bool} {dd30 : Option Addr} {k030x k130x k230x k330x k530x : Option Value}
    {nm31 q31 : Str} {N31 : Addr} {bs31 bm31 : List Value} {sn31 : List Str} {sub31 : List Value} {ab31 : Bool} {col31 : Option Bool} {dd31 : Option Addr} {k031x k131x k231x k331x k531x : Option Value}
    {nm32 q32 : Str} {N32 : Addr} {bs32 bm32 : List Value} {sn32 : List Str} {sub32 : List Value} {ab32 : Bool} {col32 : Option Bool} {dd32 : Option Addr} {k032x k132x k232x k332x k532x : Option Value}
    {nm33 q33 : Str} {N33 : Addr} {bs33 bm33 : List Value} {sn33 : List Str} {sub33 : List Value} {ab33 : Bool} {col33 : Option Bool} {dd33 : Option Addr} {k033x k133x k233x k333x k533x : Option Value}
    {t8 t12 tM} {odP : Option Addr} {slP : Array (Option Value)} {itsP : Array Value} {nP : Nat}
    (gC0 : PySem.W.nsIn K mainGlobals "BadTable" = some (some (.ref C0)))
    (gC1 : PySem.W.nsIn K mainGlobals "BadWeb" = some (some (.ref C1)))
    (gC2 : PySem.W.nsIn K mainGlobals "BadPicture" = some (some (.ref C2)))
    (gC3 : PySem.W.nsIn K mainGlobals "BadTower" = some (some (.ref C3)))
    (gC4 : PySem.W.nsIn K mainGlobals "BadText" = some (some (.ref C4)))
    (gC5 : PySem.W.nsIn K mainGlobals "TooMany" = some (some (.ref C5)))
    (gC6 : PySem.W.nsIn K mainGlobals "NoName" = some (some (.ref C6)))
    (gC7 : PySem.W.nsIn K mainGlobals "BadAnswer" = some (some (.ref C7)))
    (gC8 : PySem.W.nsIn K mainGlobals "NoColumn" = some (some (.ref C8)))
    (gC9 : PySem.W.nsIn K mainGlobals "NoFit" = some (some (.ref C9)))
    (gC10 : PySem.W.nsIn K mainGlobals "NoNumber" = some (some (.ref C10)))
    (gC11 : PySem.W.nsIn K mainGlobals "NoPrime" = some (some (.ref C11)))
    (gC12 : PySem.W.nsIn K mainGlobals "NoPolynomial" = some (some (.ref C12)))
    (gC13 : PySem.W.nsIn K mainGlobals "OtherWeb" = some (some (.ref C13)))
    (gC14 : PySem.W.nsIn K mainGlobals "NoLeading" = some (some (.ref C14)))
    (gC15 : PySem.W.nsIn K mainGlobals "NoPictures" = some (some (.ref C15)))
    (gC16 : PySem.W.nsIn K mainGlobals "NoBases" = some (some (.ref C16)))
    (gC17 : PySem.W.nsIn K mainGlobals "NoPieces" = some (some (.ref C17)))
    (gC18 : PySem.W.nsIn K mainGlobals "NoRow" = some (some (.ref C18)))
    (gC19 : PySem.W.nsIn K mainGlobals "Endless" = some (some (.ref C19)))
    (gC20 : PySem.W.nsIn K mainGlobals "Finite" = some (some (.ref C20)))
    (gC21 : PySem.W.nsIn K mainGlobals "NoTurn" = some (some (.ref C21)))
    (gC22 : PySem.W.nsIn K mainGlobals "NoWord" = some (some (.ref C22)))
    (gC23 : PySem.W.nsIn K mainGlobals "NoLine" = some (some (.ref C23)))
    (gC24 : PySem.W.nsIn K mainGlobals "NoStretch" = some (some (.ref C24)))
    (gC25 : PySem.W.nsIn K mainGlobals "NoReaches" = some (some (.ref C25)))
    (gC26 : PySem.W.nsIn K mainGlobals "NoStops" = some (some (.ref C26)))
    (gC27 : PySem.W.nsIn K mainGlobals "NoExchange" = some (some (.ref C27)))
    (gC28 : PySem.W.nsIn K mainGlobals "NoBars" = some (some (.ref C28)))
    (gC29 : PySem.W.nsIn K mainGlobals "NoKind" = some (some (.ref C29)))
    (gC30 : PySem.W.nsIn K mainGlobals "NoPencil" = some (some (.ref C30)))
    (gC31 : PySem.W.nsIn K mainGlobals "NoSizes" = some (some (.ref C31)))
    (gC32 : PySem.W.nsIn K mainGlobals "NothingDone" = some (some (.ref C32)))
    (gC33 : PySem.W.nsIn K mainGlobals "WebError" = some (some (.ref C33)))
    (gCW : PySem.W.nsIn K mainGlobals "Web" = some (some (.ref CW)))
    (gCT : PySem.W.nsIn K mainGlobals "Table" = some (some (.ref CT)))
    (a37 : PySem.W.nsIn K mainGlobals "is_integer" = some (some (.ref f37)))
    (l37 : K.lookup f37 = some ⟨oc37, od37, .func (PySem.W.fnOf "is_integer" "is_integer" (defArgs sInteger) (defBody sInteger) (defScope sInteger) .none kV37 dc37 pm37 an37 cd37 ct37), sl37⟩)
    (c37 : PySem.W.codeIn K cd37 "is_integer" = true)
    (k37 : PySem.W.keepIn K (.ref f37) = true)
    (a38 : PySem.W.nsIn K mainGlobals "is_number" = some (some (.ref f38)))
    (l38 : K.lookup f38 = some ⟨oc38, od38, .func (PySem.W.fnOf "is_number" "is_number" (defArgs sNumber) (defBody sNumber) (defScope sNumber) .none kV38 dc38 pm38 an38 cd38 ct38), sl38⟩)
    (c38 : PySem.W.codeIn K cd38 "is_number" = true)
    (k38 : PySem.W.keepIn K (.ref f38) = true)
    (a39 : PySem.W.nsIn K mainGlobals "is_prime" = some (some (.ref f39)))
    (l39 : K.lookup f39 = some ⟨oc39, od39, .func (PySem.W.fnOf "is_prime" "is_prime" (defArgs sPrime) (defBody sPrime) (defScope sPrime) .none kV39 dc39 pm39 an39 cd39 ct39), sl39⟩)
    (c39 : PySem.W.codeIn K cd39 "is_prime" = true)
    (k39 : PySem.W.keepIn K (.ref f39) = true)
    (a40 : PySem.W.nsIn K mainGlobals "is_column" = some (some (.ref f40)))
    (l40 : K.lookup f40 = some ⟨oc40, od40, .func (PySem.W.fnOf "is_column" "is_column" (defArgs sCol) (defBody sCol) (defScope sCol) .none kV40 dc40 pm40 an40 cd40 ct40), sl40⟩)
    (c40 : PySem.W.codeIn K cd40 "is_column" = true)
    (k40 : PySem.W.keepIn K (.ref f40) = true)
    (a48 : PySem.W.nsIn K mainGlobals "is_arrow" = some (some (.ref f48)))
    (l48 : K.lookup f48 = some ⟨oc48, od48, .func (PySem.W.fnOf "is_arrow" "is_arrow" (defArgs sArrow) (defBody sArrow) (defScope sArrow) .none kV48 dc48 pm48 an48 cd48 ct48), sl48⟩)
    (c48 : PySem.W.codeIn K cd48 "is_arrow" = true)
    (k48 : PySem.W.keepIn K (.ref f48) = true)
    (a50 : PySem.W.nsIn K mainGlobals "_law_hand" = some (some (.ref f50)))
    (l50 : K.lookup f50 = some ⟨oc50, od50, .func (PySem.W.fnOf "_law_hand" "_law_hand" (defArgs sPot) (defBody sPot) (defScope sPot) .none kV50 dc50 pm50 an50 cd50 ct50), sl50⟩)
    (c50 : PySem.W.codeIn K cd50 "_law_hand" = true)
    (k50 : PySem.W.keepIn K (.ref f50) = true)
    (a51 : PySem.W.nsIn K mainGlobals "_law_draw" = some (some (.ref f51)))
    (l51 : K.lookup f51 = some ⟨oc51, od51, .func (PySem.W.fnOf "_law_draw" "_law_draw" (defArgs sDraw) (defBody sDraw) (defScope sDraw) .none kV51 dc51 pm51 an51 cd51 ct51), sl51⟩)
    (c51 : PySem.W.codeIn K cd51 "_law_draw" = true)
    (k51 : PySem.W.keepIn K (.ref f51) = true)
    (a52 : PySem.W.nsIn K mainGlobals "_law_some" = some (some (.ref f52)))
    (l52 : K.lookup f52 = some ⟨oc52, od52, .func (PySem.W.fnOf "_law_some" "_law_some" (defArgs sAny) (defBody sAny) (defScope sAny) .none kV52 dc52 pm52 an52 cd52 ct52), sl52⟩)
    (c52 : PySem.W.codeIn K cd52 "_law_some" = true)
    (k52 : PySem.W.keepIn K (.ref f52) = true)
    (a53 : PySem.W.nsIn K mainGlobals "_law_is" = some (some (.ref f53)))
    (l53 : K.lookup f53 = some ⟨oc53, od53, .func (PySem.W.fnOf "_law_is" "_law_is" (defArgs sIs) (defBody sIs) (defScope sIs) .none kV53 dc53 pm53 an53 cd53 ct53), sl53⟩)
    (c53 : PySem.W.codeIn K cd53 "_law_is" = true)
    (k53 : PySem.W.keepIn K (.ref f53) = true)
    (a54 : PySem.W.nsIn K mainGlobals "_law_odd" = some (some (.ref f54)))
    (l54 : K.lookup f54 = some ⟨oc54, od54, .func (PySem.W.fnOf "_law_odd" "_law_odd" (defArgs sOdd) (defBody sOdd) (defScope sOdd) .none kV54 dc54 pm54 an54 cd54 ct54), sl54⟩)
    (c54 : PySem.W.codeIn K cd54 "_law_odd" = true)
    (k54 : PySem.W.keepIn K (.ref f54) = true)
    (a55 : PySem.W.nsIn K mainGlobals "_law_thing" = some (some (.ref f55)))
    (l55 : K.lookup f55 = some ⟨oc55, od55, .func (PySem.W.fnOf "_law_thing" "_law_thing" (defArgs sThing) (defBody sThing) (defScope sThing) .none kV55 dc55 pm55 an55 cd55 ct55), sl55⟩)
    (c55 : PySem.W.codeIn K cd55 "_law_thing" = true)
    (k55 : PySem.W.keepIn K (.ref f55) = true)
    (a56 : PySem.W.nsIn K mainGlobals "_law_all" = some (some (.ref f56)))
    (l56 : K.lookup f56 = some ⟨oc56, od56, .func (PySem.W.fnOf "_law_all" "_law_all" (defArgs sAll) (defBody sAll) (defScope sAll) .none kV56 dc56 pm56 an56 cd56 ct56), sl56⟩)
    (c56 : PySem.W.codeIn K cd56 "_law_all" = true)
    (k56 : PySem.W.keepIn K (.ref f56) = true)
    (a57 : PySem.W.nsIn K mainGlobals "_law_marks" = some (some (.ref f57)))
    (l57 : K.lookup f57 = some ⟨oc57, od57, .func (PySem.W.fnOf "_law_marks" "_law_marks" (defArgs sMarks) (defBody sMarks) (defScope sMarks) .none kV57 dc57 pm57 an57 cd57 ct57), sl57⟩)
    (c57 : PySem.W.codeIn K cd57 "_law_marks" = true)
    (k57 : PySem.W.keepIn K (.ref f57) = true)
    (a58 : PySem.W.nsIn K mainGlobals "_law_raise" = some (some (.ref f58)))
    (l58 : K.lookup f58 = some ⟨oc58, od58, .func (PySem.W.fnOf "_law_raise" "_law_raise" (defArgs sRaise) (defBody sRaise) (defScope sRaise) .none kV58 dc58 pm58 an58 cd58 ct58), sl58⟩)
    (c58 : PySem.W.codeIn K cd58 "_law_raise" = true)
    (k58 : PySem.W.keepIn K (.ref f58) = true)
    (a59 : PySem.W.nsIn K mainGlobals "_law_caught" = some (some (.ref f59)))
    (l59 : K.lookup f59 = some ⟨oc59, od59, .func (PySem.W.fnOf "_law_caught" "_law_caught" (defArgs sCaught) (defBody sCaught) (defScope sCaught) .none kV59 dc59 pm59 an59 cd59 ct59), sl59⟩)
    (c59 : PySem.W.codeIn K cd59 "_law_caught" = true)
    (k59 : PySem.W.keepIn K (.ref f59) = true)
    (a60 : PySem.W.nsIn K mainGlobals "_law_based" = some (some (.ref f60)))
    (l60 : K.lookup f60 = some ⟨oc60, od60, .func (PySem.W.fnOf "_law_based" "_law_based" (defArgs sBased) (defBody sBased) (defScope sBased) .none kV60 dc60 pm60 an60 cd60 ct60), sl60⟩)
    (c60 : PySem.W.codeIn K cd60 "_law_based" = true)
    (k60 : PySem.W.keepIn K (.ref f60) = true)
    (a61 : PySem.W.nsIn K mainGlobals "_law_plain" = some (some (.ref f61)))
    (l61 : K.lookup f61 = some ⟨oc61, od61, .func (PySem.W.fnOf "_law_plain" "_law_plain" (defArgs sPlain) (defBody sPlain) (defScope sPlain) .none kV61 dc61 pm61 an61 cd61 ct61), sl61⟩)
    (c61 : PySem.W.codeIn K cd61 "_law_plain" = true)
    (k61 : PySem.W.keepIn K (.ref f61) = true)
    (a62 : PySem.W.nsIn K mainGlobals "_law_fields" = some (some (.ref f62)))
    (l62 : K.lookup f62 = some ⟨oc62, od62, .func (PySem.W.fnOf "_law_fields" "_law_fields" (defArgs sFields) (defBody sFields) (defScope sFields) .none kV62 dc62 pm62 an62 cd62 ct62), sl62⟩)
    (c62 : PySem.W.codeIn K cd62 "_law_fields" = true)
    (k62 : PySem.W.keepIn K (.ref f62) = true)
    (a63 : PySem.W.nsIn K mainGlobals "_law_is_alien" = some (some (.ref f63)))
    (l63 : K.lookup f63 = some ⟨oc63, od63, .func (PySem.W.fnOf "_law_is_alien" "_law_is_alien" (defArgs sAlien) (defBody sAlien) (defScope sAlien) .none kV63 dc63 pm63 an63 cd63 ct63), sl63⟩)
    (c63 : PySem.W.codeIn K cd63 "_law_is_alien" = true)
    (k63 : PySem.W.keepIn K (.ref f63) = true)
    (a64 : PySem.W.nsIn K mainGlobals "law" = some (some (.ref f64)))
    (l64 : K.lookup f64 = some ⟨oc64, od64, .func (PySem.W.fnOf "law" "law" (defArgs sLaw) (defBody sLaw) (defScope sLaw) .none kV64 dc64 pm64 an64 cd64 ct64), sl64⟩)
    (c64 : PySem.W.codeIn K cd64 "law" = true)
    (k64 : PySem.W.keepIn K (.ref f64) = true)
    (aI0 : PySem.W.findIn K (.ref C0) "__init__" = some (some (.ref fI0)))
    (iI0 : PySem.W.isFn K (.ref fI0) = true)
    (lI0 : K.lookup fI0 = some ⟨ocI0, odI0, .func (PySem.W.fnOf "__init__" "BadTable.__init__" (defArgs sI0) (defBody sI0) (defScope sI0) .none kVI0 dcI0 pmI0 anI0 cdI0 ctI0), slI0⟩)
    (cI0 : PySem.W.codeIn K cdI0 "BadTable.__init__" = true)
    (kI0 : PySem.W.keepIn K (.ref fI0) = true)
    (aI1 : PySem.W.findIn K (.ref C1) "__init__" = some (some (.ref fI1)))
    (iI1 : PySem.W.isFn K (.ref fI1) = true)
    (lI1 : K.lookup fI1 = some ⟨ocI1, odI1, .func (PySem.W.fnOf "__init__" "BadWeb.__init__" (defArgs sI1) (defBody sI1) (defScope sI1) .none kVI1 dcI1 pmI1 anI1 cdI1 ctI1), slI1⟩)
    (cI1 : PySem.W.codeIn K cdI1 "BadWeb.__init__" = true)
    (kI1 : PySem.W.keepIn K (.ref fI1) = true)
    (aI2 : PySem.W.findIn K (.ref C2) "__init__" = some (some (.ref fI2)))
    (iI2 : PySem.W.isFn K (.ref fI2) = true)
    (lI2 : K.lookup fI2 = some ⟨ocI2, odI2, .func (PySem.W.fnOf "__init__" "BadPicture.__init__" (defArgs sI2) (defBody sI2) (defScope sI2) .none kVI2 dcI2 pmI2 anI2 cdI2 ctI2), slI2⟩)
    (cI2 : PySem.W.codeIn K cdI2 "BadPicture.__init__" = true)
    (kI2 : PySem.W.keepIn K (.ref fI2) = true)
    (aI3 : PySem.W.findIn K (.ref C3) "__init__" = some (some (.ref fI3)))
    (iI3 : PySem.W.isFn K (.ref fI3) = true)
    (lI3 : K.lookup fI3 = some ⟨ocI3, odI3, .func (PySem.W.fnOf "__init__" "BadTower.__init__" (defArgs sI3) (defBody sI3) (defScope sI3) .none kVI3 dcI3 pmI3 anI3 cdI3 ctI3), slI3⟩)
    (cI3 : PySem.W.codeIn K cdI3 "BadTower.__init__" = true)
    (kI3 : PySem.W.keepIn K (.ref fI3) = true)
    (aI4 : PySem.W.findIn K (.ref C4) "__init__" = some (some (.ref fI4)))
    (iI4 : PySem.W.isFn K (.ref fI4) = true)
    (lI4 : K.lookup fI4 = some ⟨ocI4, odI4, .func (PySem.W.fnOf "__init__" "BadText.__init__" (defArgs sI4) (defBody sI4) (defScope sI4) .none kVI4 dcI4 pmI4 anI4 cdI4 ctI4), slI4⟩)
    (cI4 : PySem.W.codeIn K cdI4 "BadText.__init__" = true)
    (kI4 : PySem.W.keepIn K (.ref fI4) = true)
    (aI5 : PySem.W.findIn K (.ref C5) "__init__" = some (some (.ref fI5)))
    (iI5 : PySem.W.isFn K (.ref fI5) = true)
    (lI5 : K.lookup fI5 = some ⟨ocI5, odI5, .func (PySem.W.fnOf "__init__" "TooMany.__init__" (defArgs sI5) (defBody sI5) (defScope sI5) .none kVI5 dcI5 pmI5 anI5 cdI5 ctI5), slI5⟩)
    (cI5 : PySem.W.codeIn K cdI5 "TooMany.__init__" = true)
    (kI5 : PySem.W.keepIn K (.ref fI5) = true)
    (aI6 : PySem.W.findIn K (.ref C6) "__init__" = some (some (.ref fI6)))
    (iI6 : PySem.W.isFn K (.ref fI6) = true)
    (lI6 : K.lookup fI6 = some ⟨ocI6, odI6, .func (PySem.W.fnOf "__init__" "NoName.__init__" (defArgs sI6) (defBody sI6) (defScope sI6) .none kVI6 dcI6 pmI6 anI6 cdI6 ctI6), slI6⟩)
    (cI6 : PySem.W.codeIn K cdI6 "NoName.__init__" = true)
    (kI6 : PySem.W.keepIn K (.ref fI6) = true)
    (aI7 : PySem.W.findIn K (.ref C7) "__init__" = some (some (.ref fI7)))
    (iI7 : PySem.W.isFn K (.ref fI7) = true)
    (lI7 : K.lookup fI7 = some ⟨ocI7, odI7, .func (PySem.W.fnOf "__init__" "BadAnswer.__init__" (defArgs sI7) (defBody sI7) (defScope sI7) .none kVI7 dcI7 pmI7 anI7 cdI7 ctI7), slI7⟩)
    (cI7 : PySem.W.codeIn K cdI7 "BadAnswer.__init__" = true)
    (kI7 : PySem.W.keepIn K (.ref fI7) = true)
    (aI33 : PySem.W.findIn K (.ref C33) "__init__" = some (some (.ref fI33)))
    (iI33 : PySem.W.isFn K (.ref fI33) = true)
    (lI33 : K.lookup fI33 = some ⟨ocI33, odI33, .func (PySem.W.fnOf "__init__" "WebError.__init__" (defArgs sI33) (defBody sI33) (defScope sI33) .none kVI33 dcI33 pmI33 anI33 cdI33 ctI33), slI33⟩)
    (cI33 : PySem.W.codeIn K cdI33 "WebError.__init__" = true)
    (kI33 : PySem.W.keepIn K (.ref fI33) = true)
    (aT : PySem.W.findIn K (.ref CT) "__init__" = some (some (.ref fT)))
    (iT : PySem.W.isFn K (.ref fT) = true)
    (lT : K.lookup fT = some ⟨ocT, odT, .func (PySem.W.fnOf "__init__" "Table.__init__" (defArgs sTabI) (defBody sTabI) (defScope sTabI) .none kVT dcT pmT anT cdT ctT), slT⟩)
    (cT : PySem.W.codeIn K cdT "Table.__init__" = true)
    (kT : PySem.W.keepIn K (.ref fT) = true)
    (aU : PySem.W.findIn K (.ref CT) "__eq__" = some (some (.ref fU)))
    (iU : PySem.W.isFn K (.ref fU) = true)
    (lU : K.lookup fU = some ⟨ocU, odU, .func (PySem.W.fnOf "__eq__" "Table.__eq__" (defArgs sTabE) (defBody sTabE) (defScope sTabE) .none kVU dcU pmU anU cdU ctU), slU⟩)
    (cU : PySem.W.codeIn K cdU "Table.__eq__" = true)
    (kU : PySem.W.keepIn K (.ref fU) = true)
    (aW : PySem.W.findIn K (.ref CW) "__init__" = some (some (.ref fW)))
    (iW : PySem.W.isFn K (.ref fW) = true)
    (lW : K.lookup fW = some ⟨ocW, odW, .func (PySem.W.fnOf "__init__" "Web.__init__" (defArgs sWebI) (defBody sWebI) (defScope sWebI) .none kVW dcW pmW anW cdW ctW), slW⟩)
    (cW : PySem.W.codeIn K cdW "Web.__init__" = true)
    (kW : PySem.W.keepIn K (.ref fW) = true)
    (aE : PySem.W.findIn K (.ref CW) "__eq__" = some (some (.ref fE)))
    (iE : PySem.W.isFn K (.ref fE) = true)
    (lE : K.lookup fE = some ⟨ocE, odE, .func (PySem.W.fnOf "__eq__" "Web.__eq__" (defArgs sWebE) (defBody sWebE) (defScope sWebE) .none kVE dcE pmE anE cdE ctE), slE⟩)
    (cE : PySem.W.codeIn K cdE "Web.__eq__" = true)
    (kE : PySem.W.keepIn K (.ref fE) = true)
    (ty0 : PySem.W.typeIn K (.ref fI0) = some (.type "function"))
    (ty1 : PySem.W.typeIn K (.ref fI1) = some (.type "function"))
    (ty2 : PySem.W.typeIn K (.ref fI2) = some (.type "function"))
    (ty3 : PySem.W.typeIn K (.ref fI3) = some (.type "function"))
    (ty4 : PySem.W.typeIn K (.ref fI4) = some (.type "function"))
    (ty5 : PySem.W.typeIn K (.ref fI5) = some (.type "function"))
    (ty6 : PySem.W.typeIn K (.ref fI6) = some (.type "function"))
    (ty7 : PySem.W.typeIn K (.ref fI7) = some (.type "function"))
    (ty33 : PySem.W.typeIn K (.ref fI33) = some (.type "function"))
    (xL0 : K.lookup C0 = some (excClassObj nm0 q0 C0 N0 bs0 bm0 true sn0 sub0 ab0 col0 dd0 k00x k10x k20x k30x k50x "ValueError.__new__"))
    (xb0 : PySem.HandSPX.refsVE bm0 = true)
    (xL1 : K.lookup C1 = some (excClassObj nm1 q1 C1 N1 bs1 bm1 true sn1 sub1 ab1 col1 dd1 k01x k11x k21x k31x k51x "ValueError.__new__"))
    (xb1 : PySem.HandSPX.refsVE bm1 = true)
    (xL2 : K.lookup C2 = some (excClassObj nm2 q2 C2 N2 bs2 bm2 true sn2 sub2 ab2 col2 dd2 k02x k12x k22x k32x k52x "ValueError.__new__"))
    (xb2 : PySem.HandSPX.refsVE bm2 = true)
    (xL3 : K.lookup C3 = some (excClassObj nm3 q3 C3 N3 bs3 bm3 true sn3 sub3 ab3 col3 dd3 k03x k13x k23x k33x k53x "ValueError.__new__"))
    (xb3 : PySem.HandSPX.refsVE bm3 = true)
    (xL4 : K.lookup C4 = some (excClassObj nm4 q4 C4 N4 bs4 bm4 true sn4 sub4 ab4 col4 dd4 k04x k14x k24x k34x k54x "ValueError.__new__"))
    (xb4 : PySem.HandSPX.refsVE bm4 = true)
    (xL5 : K.lookup C5 = some (excClassObj nm5 q5 C5 N5 bs5 bm5 true sn5 sub5 ab5 col5 dd5 k05x k15x k25x k35x k55x "ValueError.__new__"))
    (xb5 : PySem.HandSPX.refsVE bm5 = true)
    (xL6 : K.lookup C6 = some (excClassObj nm6 q6 C6 N6 bs6 bm6 true sn6 sub6 ab6 col6 dd6 k06x k16x k26x k36x k56x "ValueError.__new__"))
    (xb6 : PySem.HandSPX.refsVE bm6 = true)
    (xL7 : K.lookup C7 = some (excClassObj nm7 q7 C7 N7 bs7 bm7 true sn7 sub7 ab7 col7 dd7 k07x k17x k27x k37x k57x "ValueError.__new__"))
    (xb7 : PySem.HandSPX.refsVE bm7 = true)
    (xL8 : K.lookup C8 = some (excClassObj nm8 q8 C8 N8 bs8 bm8 true sn8 sub8 ab8 col8 dd8 k08x k18x k28x k38x k58x "ValueError.__new__"))
    (xb8 : PySem.HandSPX.refsVE bm8 = true)
    (xL9 : K.lookup C9 = some (excClassObj nm9 q9 C9 N9 bs9 bm9 true sn9 sub9 ab9 col9 dd9 k09x k19x k29x k39x k59x "ValueError.__new__"))
    (xb9 : PySem.HandSPX.refsVE bm9 = true)
    (xL10 : K.lookup C10 = some (excClassObj nm10 q10 C10 N10 bs10 bm10 true sn10 sub10 ab10 col10 dd10 k010x k110x k210x k310x k510x "ValueError.__new__"))
    (xb10 : PySem.HandSPX.refsVE bm10 = true)
    (xL11 : K.lookup C11 = some (excClassObj nm11 q11 C11 N11 bs11 bm11 true sn11 sub11 ab11 col11 dd11 k011x k111x k211x k311x k511x "ValueError.__new__"))
    (xb11 : PySem.HandSPX.refsVE bm11 = true)
    (xL12 : K.lookup C12 = some (excClassObj nm12 q12 C12 N12 bs12 bm12 true sn12 sub12 ab12 col12 dd12 k012x k112x k212x k312x k512x "ValueError.__new__"))
    (xb12 : PySem.HandSPX.refsVE bm12 = true)
    (xL13 : K.lookup C13 = some (excClassObj nm13 q13 C13 N13 bs13 bm13 true sn13 sub13 ab13 col13 dd13 k013x k113x k213x k313x k513x "ValueError.__new__"))
    (xb13 : PySem.HandSPX.refsVE bm13 = true)
    (xL14 : K.lookup C14 = some (excClassObj nm14 q14 C14 N14 bs14 bm14 true sn14 sub14 ab14 col14 dd14 k014x k114x k214x k314x k514x "ValueError.__new__"))
    (xb14 : PySem.HandSPX.refsVE bm14 = true)
    (xL15 : K.lookup C15 = some (excClassObj nm15 q15 C15 N15 bs15 bm15 true sn15 sub15 ab15 col15 dd15 k015x k115x k215x k315x k515x "ValueError.__new__"))
    (xb15 : PySem.HandSPX.refsVE bm15 = true)
    (xL16 : K.lookup C16 = some (excClassObj nm16 q16 C16 N16 bs16 bm16 true sn16 sub16 ab16 col16 dd16 k016x k116x k216x k316x k516x "ValueError.__new__"))
    (xb16 : PySem.HandSPX.refsVE bm16 = true)
    (xL17 : K.lookup C17 = some (excClassObj nm17 q17 C17 N17 bs17 bm17 true sn17 sub17 ab17 col17 dd17 k017x k117x k217x k317x k517x "ValueError.__new__"))
    (xb17 : PySem.HandSPX.refsVE bm17 = true)
    (xL18 : K.lookup C18 = some (excClassObj nm18 q18 C18 N18 bs18 bm18 true sn18 sub18 ab18 col18 dd18 k018x k118x k218x k318x k518x "ValueError.__new__"))
    (xb18 : PySem.HandSPX.refsVE bm18 = true)
    (xL19 : K.lookup C19 = some (excClassObj nm19 q19 C19 N19 bs19 bm19 true sn19 sub19 ab19 col19 dd19 k019x k119x k219x k319x k519x "ValueError.__new__"))
    (xb19 : PySem.HandSPX.refsVE bm19 = true)
    (xL20 : K.lookup C20 = some (excClassObj nm20 q20 C20 N20 bs20 bm20 true sn20 sub20 ab20 col20 dd20 k020x k120x k220x k320x k520x "ValueError.__new__"))
    (xb20 : PySem.HandSPX.refsVE bm20 = true)
    (xL21 : K.lookup C21 = some (excClassObj nm21 q21 C21 N21 bs21 bm21 true sn21 sub21 ab21 col21 dd21 k021x k121x k221x k321x k521x "ValueError.__new__"))
    (xb21 : PySem.HandSPX.refsVE bm21 = true)
    (xL22 : K.lookup C22 = some (excClassObj nm22 q22 C22 N22 bs22 bm22 true sn22 sub22 ab22 col22 dd22 k022x k122x k222x k322x k522x "ValueError.__new__"))
    (xb22 : PySem.HandSPX.refsVE bm22 = true)
    (xL23 : K.lookup C23 = some (excClassObj nm23 q23 C23 N23 bs23 bm23 true sn23 sub23 ab23 col23 dd23 k023x k123x k223x k323x k523x "ValueError.__new__"))
    (xb23 : PySem.HandSPX.refsVE bm23 = true)
    (xL24 : K.lookup C24 = some (excClassObj nm24 q24 C24 N24 bs24 bm24 true sn24 sub24 ab24 col24 dd24 k024x k124x k224x k324x k524x "ValueError.__new__"))
    (xb24 : PySem.HandSPX.refsVE bm24 = true)
    (xL25 : K.lookup C25 = some (excClassObj nm25 q25 C25 N25 bs25 bm25 true sn25 sub25 ab25 col25 dd25 k025x k125x k225x k325x k525x "ValueError.__new__"))
    (xb25 : PySem.HandSPX.refsVE bm25 = true)
    (xL26 : K.lookup C26 = some (excClassObj nm26 q26 C26 N26 bs26 bm26 true sn26 sub26 ab26 col26 dd26 k026x k126x k226x k326x k526x "ValueError.__new__"))
    (xb26 : PySem.HandSPX.refsVE bm26 = true)
    (xL27 : K.lookup C27 = some (excClassObj nm27 q27 C27 N27 bs27 bm27 true sn27 sub27 ab27 col27 dd27 k027x k127x k227x k327x k527x "ValueError.__new__"))
    (xb27 : PySem.HandSPX.refsVE bm27 = true)
    (xL28 : K.lookup C28 = some (excClassObj nm28 q28 C28 N28 bs28 bm28 true sn28 sub28 ab28 col28 dd28 k028x k128x k228x k328x k528x "ValueError.__new__"))
    (xb28 : PySem.HandSPX.refsVE bm28 = true)
    (xL29 : K.lookup C29 = some (excClassObj nm29 q29 C29 N29 bs29 bm29 true sn29 sub29 ab29 col29 dd29 k029x k129x k229x k329x k529x "ValueError.__new__"))
    (xb29 : PySem.HandSPX.refsVE bm29 = true)
    (xL30 : K.lookup C30 = some (excClassObj nm30 q30 C30 N30 bs30 bm30 true sn30 sub30 ab30 col30 dd30 k030x k130x k230x k330x k530x "ValueError.__new__"))
    (xb30 : PySem.HandSPX.refsVE bm30 = true)
    (xL31 : K.lookup C31 = some (excClassObj nm31 q31 C31 N31 bs31 bm31 true sn31 sub31 ab31 col31 dd31 k031x k131x k231x k331x k531x "ValueError.__new__"))
    (xb31 : PySem.HandSPX.refsVE bm31 = true)
    (xL32 : K.lookup C32 = some (excClassObj nm32 q32 C32 N32 bs32 bm32 true sn32 sub32 ab32 col32 dd32 k032x k132x k232x k332x k532x "ValueError.__new__"))
    (xb32 : PySem.HandSPX.refsVE bm32 = true)
    (xL33 : K.lookup C33 = some (excClassObj nm33 q33 C33 N33 bs33 bm33 true sn33 sub33 ab33 col33 dd33 k033x k133x k233x k333x k533x "ValueError.__new__"))
    (xb33 : PySem.HandSPX.refsVE bm33 = true)
    (okA : ([C0, C1, C2, C3, C4, C5, C6, C7, C8, C9, C10, C11, C12, C13, C14, C15, C16, C17, C18, C19, C20, C21, C22, C23, C24, C25, C26, C27, C28, C29, C30, C31, C32, C33] : List Addr).all (okC K) = true)
    (prs : pairsOk K ([C0, C1, C2, C3, C4, C5, C6, C7, C8, C9, C10, C11, C12, C13, C14, C15, C16, C17, C18, C19, C20, C21, C22, C23, C24, C25, C26, C27, C28, C29, C30, C31, C32, C33] : List Addr) = true)
    (ini : (([C0, C1, C2, C3, C4, C5, C6, C7, C8, C9, C10, C11, C12, C13, C14, C15, C16, C17, C18, C19, C20, C21, C22, C23, C24, C25, C26, C27, C28, C29, C30, C31, C32, C33] : List Addr).drop 8).all (fun C => decide (PySem.W.findIn K (.ref C) "__init__" = some (some (.ref fI33)))) = true)
    (nf0 : PySem.W.findIn K (.ref C0) "part" = some none)
    (nf1 : PySem.W.findIn K (.ref C1) "part" = some none)
    (nf2 : PySem.W.findIn K (.ref C2) "part" = some none)
    (nf3 : PySem.W.findIn K (.ref C3) "index" = some none)
    (nf4 : PySem.W.findIn K (.ref C4) "line" = some none)
    (nf5 : PySem.W.findIn K (.ref C5) "most" = some none)
    (nf6 : PySem.W.findIn K (.ref C6) "name" = some none)
    (naA : PySem.W.findIn K (.ref C7) "arrow" = some none)
    (ncA : PySem.W.findIn K (.ref C7) "column" = some none)
    (pgCW : PySem.W.plainGet K CW Str.empty = true)
    (hdCW : PySem.W.hasDictIn K CW = true)
    (poCW : PySem.W.plainOver K CW = true)
    (saCW : PySem.W.findIn K (.ref CW) "__setattr__" = some (some (.builtin "object.__setattr__")))
    (mkCW : PySem.W.makesIn K CW = true)
    (kcCW : PySem.W.keepIn K (.ref CW) = true)
    (haCW : PySem.W.findIn K (.ref CW) "__class__" = some (some (.builtin "object.__class__")))
    (hmCW : PySem.W.mroIn K CW (.type "object") = some true)
    (icCW : PySem.W.isClsIn K CW = true)
    (tcCW : PySem.W.typeIn K (.ref CW) = some (.type "type"))
    (scCW : PySem.W.subIn K (.ref CW) (.ref CW) = some true)
    (nfCW : PySem.W.notFirst K CW (.ref CW) = true)
    (sCWbool : PySem.W.subIn K (.ref CW) (.type "bool") = some false)
    (sCWtuple : PySem.W.subIn K (.ref CW) (.type "tuple") = some false)
    (sCWlist : PySem.W.subIn K (.ref CW) (.type "list") = some false)
    (rNoneTypeCW : PySem.W.subIn K (.type "NoneType") (.ref CW) = some false)
    (rboolCW : PySem.W.subIn K (.type "bool") (.ref CW) = some false)
    (rintCW : PySem.W.subIn K (.type "int") (.ref CW) = some false)
    (rstrCW : PySem.W.subIn K (.type "str") (.ref CW) = some false)
    (rdictCW : PySem.W.subIn K (.type "dict") (.ref CW) = some false)
    (rtupleCW : PySem.W.subIn K (.type "tuple") (.ref CW) = some false)
    (rlistCW : PySem.W.subIn K (.type "list") (.ref CW) = some false)
    (pgCT : PySem.W.plainGet K CT Str.empty = true)
    (hdCT : PySem.W.hasDictIn K CT = true)
    (poCT : PySem.W.plainOver K CT = true)
    (saCT : PySem.W.findIn K (.ref CT) "__setattr__" = some (some (.builtin "object.__setattr__")))
    (mkCT : PySem.W.makesIn K CT = true)
    (kcCT : PySem.W.keepIn K (.ref CT) = true)
    (haCT : PySem.W.findIn K (.ref CT) "__class__" = some (some (.builtin "object.__class__")))
    (hmCT : PySem.W.mroIn K CT (.type "object") = some true)
    (icCT : PySem.W.isClsIn K CT = true)
    (tcCT : PySem.W.typeIn K (.ref CT) = some (.type "type"))
    (scCT : PySem.W.subIn K (.ref CT) (.ref CT) = some true)
    (nfCT : PySem.W.notFirst K CT (.ref CT) = true)
    (sCTbool : PySem.W.subIn K (.ref CT) (.type "bool") = some false)
    (sCTtuple : PySem.W.subIn K (.ref CT) (.type "tuple") = some false)
    (sCTlist : PySem.W.subIn K (.ref CT) (.type "list") = some false)
    (rNoneTypeCT : PySem.W.subIn K (.type "NoneType") (.ref CT) = some false)
    (rboolCT : PySem.W.subIn K (.type "bool") (.ref CT) = some false)
    (rintCT : PySem.W.subIn K (.type "int") (.ref CT) = some false)
    (rstrCT : PySem.W.subIn K (.type "str") (.ref CT) = some false)
    (rdictCT : PySem.W.subIn K (.type "dict") (.ref CT) = some false)
    (rtupleCT : PySem.W.subIn K (.type "tuple") (.ref CT) = some false)
    (rlistCT : PySem.W.subIn K (.type "list") (.ref CT) = some false)
    (sTW : PySem.W.subIn K (.ref CT) (.ref CW) = some false)
    (sWT : PySem.W.subIn K (.ref CW) (.ref CT) = some false)
    (hn : PySem.W.specialIn K (.builtin "object.__class__") "__get__" = some (some (.builtin "getset_descriptor.__get__")))
    (ht : PySem.W.takesIn K (.builtin "object.__class__") = some true)
    (nmany : PySem.W.findIn K (.ref CW) "many" = some none)
    (narrows : PySem.W.findIn K (.ref CW) "arrows" = some none)
    (nprime : PySem.W.findIn K (.ref CT) "prime" = some none)
    (nwide : PySem.W.findIn K (.ref CT) "wide" = some none)
    (nrows : PySem.W.findIn K (.ref CT) "rows" = some none)
    (nhigh : PySem.W.findIn K (.ref CT) "high" = some none)
    (v8 : PySem.W.nsIn K mainGlobals "MOST_PLACES" = some (some (.int 8 t8)))
    (v12 : PySem.W.nsIn K mainGlobals "MOST_ARROWS" = some (some (.int 12 t12)))
    (vM : PySem.W.nsIn K mainGlobals "MOST" = some (some (.int 12 tM)))
    (vP : PySem.W.nsIn K mainGlobals "PRIMES" = some (some (.ref aP)))
    (lP : K.lookup aP = some ⟨.type "tuple", odP, .seq itsP nP, slP⟩)
    (zP : itsP.size ≤ sizeLine)
    (rP : Vals [.int 2, .int 3, .int 5, .int 7, .int 11, .int 13] itsP.toList)
    (zlen : PySem.W.nsIn K mainGlobals "len" = some none)
    (zint : PySem.W.nsIn K mainGlobals "int" = some none)
    (zbool : PySem.W.nsIn K mainGlobals "bool" = some none)
    (zisi : PySem.W.nsIn K mainGlobals "isinstance" = some none)
    (ztup : PySem.W.nsIn K mainGlobals "tuple" = some none)
    (zall : PySem.W.nsIn K mainGlobals "all" = some none)
    (zenum : PySem.W.nsIn K mainGlobals "enumerate" = some none)
    (zlist : PySem.W.nsIn K mainGlobals "list" = some none)
    (zrng : PySem.W.nsIn K mainGlobals "range" = some none)
    (zmin : PySem.W.nsIn K mainGlobals "min" = some none)
    (zmax : PySem.W.nsIn K mainGlobals "max" = some none)
    (zsorted : PySem.W.nsIn K mainGlobals "sorted" = some none)
    (zset : PySem.W.nsIn K mainGlobals "set" = some none)
    (zstr : PySem.W.nsIn K mainGlobals "str" = some none)
    (zabs : PySem.W.nsIn K mainGlobals "abs" = some none)
    (zve : PySem.W.nsIn K mainGlobals "ValueError" = some none)
    (zlk : PySem.W.nsIn K mainGlobals "LookupError" = some none)
    (zar : PySem.W.nsIn K mainGlobals "ArithmeticError" = some none)
    (zte : PySem.W.nsIn K mainGlobals "TypeError" = some none)
    (zzip : PySem.W.nsIn K mainGlobals "zip" = some none) :
    ∃ fd : FuncData, (∀ (s : Shared) (v : Value), BindsTo s fd ⟨[v], []⟩ [("script", v)]) ∧ ∀ base : Heap, K.In base → base.Ns mainGlobals mg → FnOk l.prog w K mg base CX0 44 fa fd ["script"] (spLaw K) := by
  have e := hfa.symm.trans (PySem.W.mg_of X G a64)
  cases e
  have T : Gb mg := ⟨PySem.W.mg_none_of X G zlen, PySem.W.mg_none_of X G zint, PySem.W.mg_none_of X G zbool, PySem.W.mg_none_of X G zisi, PySem.W.mg_none_of X G ztup, PySem.W.mg_none_of X G zall, PySem.W.mg_none_of X G zenum, PySem.W.mg_none_of X G zlist, PySem.W.mg_none_of X G zrng, PySem.W.mg_none_of X G zmin, PySem.W.mg_none_of X G zmax, PySem.W.mg_none_of X G zsorted, PySem.W.mg_none_of X G zset, PySem.W.mg_none_of X G zstr, PySem.W.mg_none_of X G zabs, PySem.W.mg_none_of X G zve⟩
  have T2 : Gc mg := ⟨PySem.W.mg_none_of X G zlk, PySem.W.mg_none_of X G zar, PySem.W.mg_none_of X G zte, PySem.W.mg_none_of X G zzip⟩
  have clW : Cls K CW := ⟨pgCW, hdCW, poCW, saCW⟩
  have clT : Cls K CT := ⟨pgCT, hdCT, poCT, saCT⟩
  have W : WebC K mg CW := ⟨clW, nmany, narrows, PySem.W.mg_of X G gCW, ⟨t8, PySem.W.mg_of X G v8⟩, ⟨t12, PySem.W.mg_of X G v12⟩⟩
  have D : TabD K mg CT := ⟨clT, nprime, nwide, nrows, nhigh, PySem.W.mg_of X G gCT, ⟨tM, PySem.W.mg_of X G vM⟩, aP, PySem.W.mg_of X G vP, fun H => .inr ⟨_, itsP, nP, lP, rfl, rfl, zP, rP⟩⟩
  have IW : IsC K CW := ⟨clW, haCW, hn, ht, hmCW⟩
  have IT : IsC K CT := ⟨clT, haCT, hn, ht, hmCT⟩
  have J : Kits K CT CW := by
    refine ⟨IT, IW, fun s hs => ?_, fun s hs => ?_, kit_ref icCW tcCW scCW sTW, kit_ref icCT tcCT scCT sWT, nfCT, nfCW⟩
    · simp only [List.mem_cons, List.not_mem_nil, or_false] at hs
      rcases hs with rfl | rfl | rfl | rfl | rfl | rfl | rfl
      · exact ⟨kit_ref icCT tcCT scCT rNoneTypeCT, kit_ref icCW tcCW scCW rNoneTypeCW⟩
      · exact ⟨kit_ref icCT tcCT scCT rboolCT, kit_ref icCW tcCW scCW rboolCW⟩
      · exact ⟨kit_ref icCT tcCT scCT rintCT, kit_ref icCW tcCW scCW rintCW⟩
      · exact ⟨kit_ref icCT tcCT scCT rstrCT, kit_ref icCW tcCW scCW rstrCW⟩
      · exact ⟨kit_ref icCT tcCT scCT rdictCT, kit_ref icCW tcCW scCW rdictCW⟩
      · exact ⟨kit_ref icCT tcCT scCT rtupleCT, kit_ref icCW tcCW scCW rtupleCW⟩
      · exact ⟨kit_ref icCT tcCT scCT rlistCT, kit_ref icCW tcCW scCW rlistCW⟩
    · simp only [List.mem_cons, List.not_mem_nil, or_false] at hs
      rcases hs with rfl | rfl | rfl
      · exact ⟨kit_tyc (by decide +kernel) sCTbool, kit_tyc (by decide +kernel) sCWbool⟩
      · exact ⟨kit_tyc (by decide +kernel) sCTtuple, kit_tyc (by decide +kernel) sCWtuple⟩
      · exact ⟨kit_tyc (by decide +kernel) sCTlist, kit_tyc (by decide +kernel) sCWlist⟩
  let cl : List Addr := [C0, C1, C2, C3, C4, C5, C6, C7, C8, C9, C10, C11, C12, C13, C14, C15, C16, C17, C18, C19, C20, C21, C22, C23, C24, C25, C26, C27, C28, C29, C30, C31, C32, C33]
  let c : Nat → Addr := fun i => cl.getD i 0
  let fi : Nat → Addr := fun i => [fI0, fI1, fI2, fI3, fI4, fI5, fI6, fI7].getD i fI33
  have mem : ∀ i, i < 34 → c i ∈ cl := fun i hi => getD_mem hi
  have okI : ∀ i, i < 34 → OkC K (c i) := fun i hi => of_decide_eq_true (List.all_eq_true.mp okA (c i) (mem i hi))
  have sub : ∀ i j, i < 34 → j < 34 → PySem.W.subIn K (.ref (c i)) (.ref (c j)) = some (decide (i = j) || decide (j = 33)) := fun i j hi hj => pairs_of prs hi hj
  have subj : ∀ j, j < 34 → PySem.W.subIn K (.ref (c j)) (.ref (c j)) = some true := fun j hj => (sub j j hj hj).trans (by simp)
  have C : ClsE K mg c fi := by
    refine ⟨fun i hi => ?_, fun i hi => ?_, fun i hi => ?_, ?_, fun i j hi hj => ?_, fun i j hi hj => ?_, fun i hi => ?_, fun i hi => ?_, fun i hi => ?_, ?_, fun i h8 hi => ?_, ?_, naA, ncA⟩
    · have q := okI i hi
      refine ⟨?_, q.sa, q.ex, q.ty, q.kp⟩
      exact (show ∀ i, i < 34 → OexCls K (c i) from fun i hi => match i, hi with | 0, _ => ⟨nm0, q0, N0, bs0, bm0, sn0, sub0, ab0, col0, dd0, k00x, k10x, k20x, k30x, k50x, xL0, xb0⟩ | 1, _ => ⟨nm1, q1, N1, bs1, bm1, sn1, sub1, ab1, col1, dd1, k01x, k11x, k21x, k31x, k51x, xL1, xb1⟩ | 2, _ => ⟨nm2, q2, N2, bs2, bm2, sn2, sub2, ab2, col2, dd2, k02x, k12x, k22x, k32x, k52x, xL2, xb2⟩ | 3, _ => ⟨nm3, q3, N3, bs3, bm3, sn3, sub3, ab3, col3, dd3, k03x, k13x, k23x, k33x, k53x, xL3, xb3⟩ | 4, _ => ⟨nm4, q4, N4, bs4, bm4, sn4, sub4, ab4, col4, dd4, k04x, k14x, k24x, k34x, k54x, xL4, xb4⟩ | 5, _ => ⟨nm5, q5, N5, bs5, bm5, sn5, sub5, ab5, col5, dd5, k05x, k15x, k25x, k35x, k55x, xL5, xb5⟩ | 6, _ => ⟨nm6, q6, N6, bs6, bm6, sn6, sub6, ab6, col6, dd6, k06x, k16x, k26x, k36x, k56x, xL6, xb6⟩ | 7, _ => ⟨nm7, q7, N7, bs7, bm7, sn7, sub7, ab7, col7, dd7, k07x, k17x, k27x, k37x, k57x, xL7, xb7⟩ | 8, _ => ⟨nm8, q8, N8, bs8, bm8, sn8, sub8, ab8, col8, dd8, k08x, k18x, k28x, k38x, k58x, xL8, xb8⟩ | 9, _ => ⟨nm9, q9, N9, bs9, bm9, sn9, sub9, ab9, col9, dd9, k09x, k19x, k29x, k39x, k59x, xL9, xb9⟩ | 10, _ => ⟨nm10, q10, N10, bs10, bm10, sn10, sub10, ab10, col10, dd10, k010x, k110x, k210x, k310x, k510x, xL10, xb10⟩ | 11, _ => ⟨nm11, q11, N11, bs11, bm11, sn11, sub11, ab11, col11, dd11, k011x, k111x, k211x, k311x, k511x, xL11, xb11⟩ | 12, _ => ⟨nm12, q12, N12, bs12, bm12, sn12, sub12, ab12, col12, dd12, k012x, k112x, k212x, k312x, k512x, xL12, xb12⟩ | 13, _ => ⟨nm13, q13, N13, bs13, bm13, sn13, sub13, ab13, col13, dd13, k013x, k113x, k213x, k313x, k513x, xL13, xb13⟩ | 14, _ => ⟨nm14, q14, N14, bs14, bm14, sn14, sub14, ab14, col14, dd14, k014x, k114x, k214x, k314x, k514x, xL14, xb14⟩ | 15, _ => ⟨nm15, q15, N15, bs15, bm15, sn15, sub15, ab15, col15, dd15, k015x, k115x, k215x, k315x, k515x, xL15, xb15⟩ | 16, _ => ⟨nm16, q16, N16, bs16, bm16, sn16, sub16, ab16, col16, dd16, k016x, k116x, k216x, k316x, k516x, xL16, xb16⟩ | 17, _ => ⟨nm17, q17, N17, bs17, bm17, sn17, sub17, ab17, col17, dd17, k017x, k117x, k217x, k317x, k517x, xL17, xb17⟩ | 18, _ => ⟨nm18, q18, N18, bs18, bm18, sn18, sub18, ab18, col18, dd18, k018x, k118x, k218x, k318x, k518x, xL18, xb18⟩ | 19, _ => ⟨nm19, q19, N19, bs19, bm19, sn19, sub19, ab19, col19, dd19, k019x, k119x, k219x, k319x, k519x, xL19, xb19⟩ | 20, _ => ⟨nm20, q20, N20, bs20, bm20, sn20, sub20, ab20, col20, dd20, k020x, k120x, k220x, k320x, k520x, xL20, xb20⟩ | 21, _ => ⟨nm21, q21, N21, bs21, bm21, sn21, sub21, ab21, col21, dd21, k021x, k121x, k221x, k321x, k521x, xL21, xb21⟩ | 22, _ => ⟨nm22, q22, N22, bs22, bm22, sn22, sub22, ab22, col22, dd22, k022x, k122x, k222x, k322x, k522x, xL22, xb22⟩ | 23, _ => ⟨nm23, q23, N23, bs23, bm23, sn23, sub23, ab23, col23, dd23, k023x, k123x, k223x, k323x, k523x, xL23, xb23⟩ | 24, _ => ⟨nm24, q24, N24, bs24, bm24, sn24, sub24, ab24, col24, dd24, k024x, k124x, k224x, k324x, k524x, xL24, xb24⟩ | 25, _ => ⟨nm25, q25, N25, bs25, bm25, sn25, sub25, ab25, col25, dd25, k025x, k125x, k225x, k325x, k525x, xL25, xb25⟩ | 26, _ => ⟨nm26, q26, N26, bs26, bm26, sn26, sub26, ab26, col26, dd26, k026x, k126x, k226x, k326x, k526x, xL26, xb26⟩ | 27, _ => ⟨nm27, q27, N27, bs27, bm27, sn27, sub27, ab27, col27, dd27, k027x, k127x, k227x, k327x, k527x, xL27, xb27⟩ | 28, _ => ⟨nm28, q28, N28, bs28, bm28, sn28, sub28, ab28, col28, dd28, k028x, k128x, k228x, k328x, k528x, xL28, xb28⟩ | 29, _ => ⟨nm29, q29, N29, bs29, bm29, sn29, sub29, ab29, col29, dd29, k029x, k129x, k229x, k329x, k529x, xL29, xb29⟩ | 30, _ => ⟨nm30, q30, N30, bs30, bm30, sn30, sub30, ab30, col30, dd30, k030x, k130x, k230x, k330x, k530x, xL30, xb30⟩ | 31, _ => ⟨nm31, q31, N31, bs31, bm31, sn31, sub31, ab31, col31, dd31, k031x, k131x, k231x, k331x, k531x, xL31, xb31⟩ | 32, _ => ⟨nm32, q32, N32, bs32, bm32, sn32, sub32, ab32, col32, dd32, k032x, k132x, k232x, k332x, k532x, xL32, xb32⟩ | 33, _ => ⟨nm33, q33, N33, bs33, bm33, sn33, sub33, ab33, col33, dd33, k033x, k133x, k233x, k333x, k533x, xL33, xb33⟩ | n + 34, h => absurd h (by omega)) i hi
    · have q := okI i hi
      exact ⟨q.ic, q.ga, q.gg, q.ex, q.ha, hn, ht, q.hm⟩
    · have q := okI i hi
      exact ⟨q.ga, q.gg, q.ex, q.hd⟩
    · exact fun i hi => match i, hi with | 0, _ => PySem.W.mg_of X G gC0 | 1, _ => PySem.W.mg_of X G gC1 | 2, _ => PySem.W.mg_of X G gC2 | 3, _ => PySem.W.mg_of X G gC3 | 4, _ => PySem.W.mg_of X G gC4 | 5, _ => PySem.W.mg_of X G gC5 | 6, _ => PySem.W.mg_of X G gC6 | 7, _ => PySem.W.mg_of X G gC7 | 8, _ => PySem.W.mg_of X G gC8 | 9, _ => PySem.W.mg_of X G gC9 | 10, _ => PySem.W.mg_of X G gC10 | 11, _ => PySem.W.mg_of X G gC11 | 12, _ => PySem.W.mg_of X G gC12 | 13, _ => PySem.W.mg_of X G gC13 | 14, _ => PySem.W.mg_of X G gC14 | 15, _ => PySem.W.mg_of X G gC15 | 16, _ => PySem.W.mg_of X G gC16 | 17, _ => PySem.W.mg_of X G gC17 | 18, _ => PySem.W.mg_of X G gC18 | 19, _ => PySem.W.mg_of X G gC19 | 20, _ => PySem.W.mg_of X G gC20 | 21, _ => PySem.W.mg_of X G gC21 | 22, _ => PySem.W.mg_of X G gC22 | 23, _ => PySem.W.mg_of X G gC23 | 24, _ => PySem.W.mg_of X G gC24 | 25, _ => PySem.W.mg_of X G gC25 | 26, _ => PySem.W.mg_of X G gC26 | 27, _ => PySem.W.mg_of X G gC27 | 28, _ => PySem.W.mg_of X G gC28 | 29, _ => PySem.W.mg_of X G gC29 | 30, _ => PySem.W.mg_of X G gC30 | 31, _ => PySem.W.mg_of X G gC31 | 32, _ => PySem.W.mg_of X G gC32 | 33, _ => PySem.W.mg_of X G gC33 | n + 34, h => absurd h (by omega)
    · have q := okI j hj
      exact kit_ref q.ic q.ty (subj j hj) (sub i j hi hj)
    · have q := okI j hj
      exact exm_ref q.ex q.ic q.ty (sub i j hi hj)
    · exact kit_tyc (by decide +kernel) (okI i hi).v1
    · have q := okI i hi
      exact kitAny_cons (kit_tyc (by decide +kernel) q.v2) (fun _ => kitAny_cons (kit_tyc (by decide +kernel) q.v3) (fun _ => kitAny_cons (kit_tyc (by decide +kernel) q.v4) (fun _ => rfl) fun z => nomatch z) fun z => nomatch z) fun z => nomatch z
    · by_cases h8 : 8 ≤ i
      · by_cases h33 : i = 33
        · subst h33
          exact aI33
        · have e : fi i = fI33 := getD_ge h8
          rw [e]
          exact of_decide_eq_true (List.all_eq_true.mp ini (c i) (getD_drop h8 hi))
      · exact (show ∀ i, i < 8 → PySem.W.findIn K (.ref (c i)) "__init__" = some (some (.ref (fi i))) from fun i hi => match i, hi with | 0, _ => aI0 | 1, _ => aI1 | 2, _ => aI2 | 3, _ => aI3 | 4, _ => aI4 | 5, _ => aI5 | 6, _ => aI6 | 7, _ => aI7 | n + 8, h => absurd h (by omega)) i (by omega)
    · intro i hi
      by_cases h8 : 8 ≤ i
      · have e : fi i = fI33 := getD_ge h8
        rw [e]
        exact ty33
      · exact (show ∀ i, i < 8 → PySem.W.typeIn K (.ref (fi i)) = some (.type "function") from fun i hi => match i, hi with | 0, _ => ty0 | 1, _ => ty1 | 2, _ => ty2 | 3, _ => ty3 | 4, _ => ty4 | 5, _ => ty5 | 6, _ => ty6 | 7, _ => ty7 | n + 8, h => absurd h (by omega)) i (by omega)
    · exact (getD_ge h8).trans (getD_ge (by decide)).symm
    · exact fun i hi => match i, hi with | 0, _ => nf0 | 1, _ => nf1 | 2, _ => nf2 | 3, _ => nf3 | 4, _ => nf4 | 5, _ => nf5 | 6, _ => nf6 | n + 7, h => absurd h (by omega)
  have F37 := fun_mk (st := sInteger) l37 c37 k37
  have b37 := F37.binds (ps := ["thing"]) fun _ _ _ _ _ _ us hl => match us, hl with | [_], _ => rfl
  have F38 := fun_mk (st := sNumber) l38 c38 k38
  have b38 := F38.binds (ps := ["most", "thing"]) fun _ _ _ _ _ _ us hl => match us, hl with | [_, _], _ => rfl
  have F39 := fun_mk (st := sPrime) l39 c39 k39
  have b39 := F39.binds (ps := ["thing"]) fun _ _ _ _ _ _ us hl => match us, hl with | [_], _ => rfl
  have F40 := fun_mk (st := sCol) l40 c40 k40
  have b40 := F40.binds (ps := ["prime", "length", "thing"]) fun _ _ _ _ _ _ us hl => match us, hl with | [_, _, _], _ => rfl
  have F48 := fun_mk (st := sArrow) l48 c48 k48
  have b48 := F48.binds (ps := ["many", "thing"]) fun _ _ _ _ _ _ us hl => match us, hl with | [_, _], _ => rfl
  have F50 := fun_mk (st := sPot) l50 c50 k50
  have b50 := F50.binds (ps := ["script"]) fun _ _ _ _ _ _ us hl => match us, hl with | [_], _ => rfl
  have F51 := fun_mk (st := sDraw) l51 c51 k51
  have b51 := F51.binds (ps := ["hand", "many"]) fun _ _ _ _ _ _ us hl => match us, hl with | [_, _], _ => rfl
  have F52 := fun_mk (st := sAny) l52 c52 k52
  have b52 := F52.binds (ps := ["hand", "things"]) fun _ _ _ _ _ _ us hl => match us, hl with | [_, _], _ => rfl
  have F53 := fun_mk (st := sIs) l53 c53 k53
  have b53 := F53.binds (ps := ["told", "due"]) fun _ _ _ _ _ _ us hl => match us, hl with | [_, _], _ => rfl
  have F54 := fun_mk (st := sOdd) l54 c54 k54
  have b54 := F54.binds (ps := ["hand"]) fun _ _ _ _ _ _ us hl => match us, hl with | [_], _ => rfl
  have F55 := fun_mk (st := sThing) l55 c55 k55
  have b55 := F55.binds (ps := ["hand"]) fun _ _ _ _ _ _ us hl => match us, hl with | [_], _ => rfl
  have F56 := fun_mk (st := sAll) l56 c56 k56
  have b56 := F56.binds (ps := ["thing", "other"]) fun _ _ _ _ _ _ us hl => match us, hl with | [_, _], _ => rfl
  have F57 := fun_mk (st := sMarks) l57 c57 k57
  have b57 := F57.binds (ps := ["one"]) fun _ _ _ _ _ _ us hl => match us, hl with | [_], _ => rfl
  have F58 := fun_mk (st := sRaise) l58 c58 k58
  have b58 := F58.binds (ps := ["which", "thing", "other"]) fun _ _ _ _ _ _ us hl => match us, hl with | [_, _, _], _ => rfl
  have F59 := fun_mk (st := sCaught) l59 c59 k59
  have b59 := F59.binds (ps := ["which", "thing", "other"]) fun _ _ _ _ _ _ us hl => match us, hl with | [_, _, _], _ => rfl
  have F60 := fun_mk (st := sBased) l60 c60 k60
  have b60 := F60.binds (ps := ["which", "thing", "other"]) fun _ _ _ _ _ _ us hl => match us, hl with | [_, _, _], _ => rfl
  have F61 := fun_mk (st := sPlain) l61 c61 k61
  have b61 := F61.binds (ps := ["which"]) fun _ _ _ _ _ _ us hl => match us, hl with | [_], _ => rfl
  have F62 := fun_mk (st := sFields) l62 c62 k62
  have b62 := F62.binds (ps := ["errors"]) fun _ _ _ _ _ _ us hl => match us, hl with | [_], _ => rfl
  have F63 := fun_mk (st := sAlien) l63 c63 k63
  have b63 := F63.binds (ps := ["error"]) fun _ _ _ _ _ _ us hl => match us, hl with | [_], _ => rfl
  have F64 := fun_mk (st := sLaw) l64 c64 k64
  have b64 := F64.binds (ps := ["script"]) fun _ _ _ _ _ _ us hl => match us, hl with | [_], _ => rfl
  have FI0 := fun_mk (st := sI0) lI0 cI0 kI0
  have bI0 := FI0.binds (ps := ["self", "part"]) fun _ _ _ _ _ _ us hl => match us, hl with | [_, _], _ => rfl
  have FI1 := fun_mk (st := sI1) lI1 cI1 kI1
  have bI1 := FI1.binds (ps := ["self", "part"]) fun _ _ _ _ _ _ us hl => match us, hl with | [_, _], _ => rfl
  have FI2 := fun_mk (st := sI2) lI2 cI2 kI2
  have bI2 := FI2.binds (ps := ["self", "part"]) fun _ _ _ _ _ _ us hl => match us, hl with | [_, _], _ => rfl
  have FI3 := fun_mk (st := sI3) lI3 cI3 kI3
  have bI3 := FI3.binds (ps := ["self", "index"]) fun _ _ _ _ _ _ us hl => match us, hl with | [_, _], _ => rfl
  have FI4 := fun_mk (st := sI4) lI4 cI4 kI4
  have bI4 := FI4.binds (ps := ["self", "line"]) fun _ _ _ _ _ _ us hl => match us, hl with | [_, _], _ => rfl
  have FI5 := fun_mk (st := sI5) lI5 cI5 kI5
  have bI5 := FI5.binds (ps := ["self", "most"]) fun _ _ _ _ _ _ us hl => match us, hl with | [_, _], _ => rfl
  have FI6 := fun_mk (st := sI6) lI6 cI6 kI6
  have bI6 := FI6.binds (ps := ["self", "name"]) fun _ _ _ _ _ _ us hl => match us, hl with | [_, _], _ => rfl
  have FI7 := fun_mk (st := sI7) lI7 cI7 kI7
  have bI7 := FI7.binds (ps := ["self", "arrow", "column"]) fun _ _ _ _ _ _ us hl => match us, hl with | [_, _, _], _ => rfl
  have FI33 := fun_mk (st := sI33) lI33 cI33 kI33
  have bI33 := FI33.binds (ps := ["self"]) fun _ _ _ _ _ _ us hl => match us, hl with | [_], _ => rfl
  have FT := fun_mk (st := sTabI) lT cT kT
  have bT := FT.binds (ps := ["self", "prime", "wide", "rows"]) fun _ _ _ _ _ _ us hl => match us, hl with | [_, _, _, _], _ => rfl
  have FU := fun_mk (st := sTabE) lU cU kU
  have bU := FU.binds (ps := ["self", "other"]) fun _ _ _ _ _ _ us hl => match us, hl with | [_, _], _ => rfl
  have FW := fun_mk (st := sWebI) lW cW kW
  have bW := FW.binds (ps := ["self", "many", "arrows"]) fun _ _ _ _ _ _ us hl => match us, hl with | [_, _, _], _ => rfl
  have FE := fun_mk (st := sWebE) lE cE kE
  have bE := FE.binds (ps := ["self", "other"]) fun _ _ _ _ _ _ us hl => match us, hl with | [_, _], _ => rfl
  refine ⟨PySem.W.fnOf "law" "law" (defArgs sLaw) (defBody sLaw) (defScope sLaw) .none kV64 dc64 pm64 an64 cd64 ct64, fun s v => .of_eq rfl, fun base _ _ => ?_⟩
  have N : Inis l.prog w K mg base c fi := ⟨⟨_, ok_i0 FI0 (C.ex 0 (by decide)) nf0, bI0⟩, ⟨_, ok_i1 FI1 (C.ex 1 (by decide)) nf1, bI1⟩, ⟨_, ok_i2 FI2 (C.ex 2 (by decide)) nf2, bI2⟩, ⟨_, ok_i3 FI3 (C.ex 3 (by decide)) nf3, bI3⟩, ⟨_, ok_i4 FI4 (C.ex 4 (by decide)) nf4, bI4⟩, ⟨_, ok_i5 FI5 (C.ex 5 (by decide)) nf5, bI5⟩, ⟨_, ok_i6 FI6 (C.ex 6 (by decide)) nf6, bI6⟩, ⟨_, ok_i7 FI7 (C.ex 7 (by decide)) naA ncA, bI7⟩, ⟨_, ok_i33 FI33, bI33⟩⟩
  have cInt : Cal l.prog w K mg base 1 "is_integer" (spInteger K) [] := ⟨⟨f37, _, _, [], ok_integer F37 T, PySem.W.mg_of X G a37, k37, b37, .nil⟩⟩
  have cNum : Cal l.prog w K mg base 2 "is_number" (spNumber K) [] := ⟨⟨f38, _, _, [], ok_number F38 cInt, PySem.W.mg_of X G a38, k38, b38, .nil⟩⟩
  have cPri : Cal l.prog w K mg base 2 "is_prime" spPrime2 [] := ⟨⟨f39, _, _, [], ok_prime F39 D cInt, PySem.W.mg_of X G a39, k39, b39, .nil⟩⟩
  have cCol : Cal l.prog w K mg base 3 "is_column" spCol [] := ⟨⟨f40, _, _, [], ok_col F40 T cNum, PySem.W.mg_of X G a40, k40, b40, .nil⟩⟩
  have cArr : Cal l.prog w K mg base 3 "is_arrow" (spArrow K) [] := ⟨⟨f48, _, _, [], ok_arrow F48 T cNum, PySem.W.mg_of X G a48, k48, b48, .nil⟩⟩
  have cH : Cal l.prog w K mg base 1 "_law_hand" (spPot K) [] := ⟨⟨f50, _, _, [], ok_pot F50 T, PySem.W.mg_of X G a50, k50, b50, .nil⟩⟩
  have cD : Cal l.prog w K mg base 1 "_law_draw" spDraw [] := ⟨⟨f51, _, _, [], ok_draw F51 ⟨T.len, T.int⟩, PySem.W.mg_of X G a51, k51, b51, .nil⟩⟩
  have cA : Cal l.prog w K mg base 2 "_law_some" spAny [] := ⟨⟨f52, _, _, [], ok_any F52 T cD, PySem.W.mg_of X G a52, k52, b52, .nil⟩⟩
  have GT : FnOk l.prog w K mg base CX0 4 fT _ ["self", "prime", "wide", "rows"] (spTab1 CT) := ok_tab FT T D cPri cNum cCol
  have GW : FnOk l.prog w K mg base CX0 4 fW _ ["self", "many", "arrows"] (spWeb1 CW) := ok_web1 FW T W cNum cArr
  have GU : FnOk l.prog w K mg base CX0 1 fU _ ["self", "other"] (spEqT CT) := ok_tabE FU T D IT
  have GE : FnOk l.prog w K mg base CX0 1 fE _ ["self", "other"] (spEqW K CW) := ok_webE FE T W IW
  have cO : Cal l.prog w K mg base 6 "_law_odd" (spOddS CT CW) [] := ⟨⟨f54, _, _, [], ok_odd F54 D W cA ⟨mkCT, aT, iT, kcCT⟩ GT bT ⟨mkCW, aW, iW, kcCW⟩ GW bW, PySem.W.mg_of X G a54, k54, b54, .nil⟩⟩
  have cT : Cal l.prog w K mg base 7 "_law_thing" (spThing CT CW) [] := ⟨⟨f55, _, _, [], ok_thing F55 T cD cO, PySem.W.mg_of X G a55, k55, b55, .nil⟩⟩
  have cI : Cal l.prog w K mg base 43 "_law_is" (spIs CT CW 41) [] := ⟨⟨f53, _, _, [], ok_is F53 T T2.zip D W J (PySem.W.mg_of X G a53) k53 b53 GU bU aU iU GE bE aE iE 41, PySem.W.mg_of X G a53, k53, b53, .nil⟩⟩
  have cL : Cal l.prog w K mg base 3 "_law_all" (spAll c) [] := ⟨⟨f56, _, _, [], ok_all F56 C N, PySem.W.mg_of X G a56, k56, b56, .nil⟩⟩
  have cM : Cal l.prog w K mg base 1 "_law_marks" (spMarks K c) [] := ⟨⟨f57, _, _, [], ok_marks F57 T C, PySem.W.mg_of X G a57, k57, b57, .nil⟩⟩
  have GR : FnOk l.prog w K mg base (L2.CX l.prog w) 3 f58 _ ["which", "thing", "other"] (spRaise c) := ok_raise F58 C N
  have cG : Cal l.prog w K mg base 4 "_law_caught" (spCaught c) [] := ⟨⟨f59, _, _, [], ok_caught F59 C GR (PySem.W.mg_of X G a58) k58 b58, PySem.W.mg_of X G a59, k59, b59, .nil⟩⟩
  have cB : Cal l.prog w K mg base 4 "_law_based" spBased [] := ⟨⟨f60, _, _, [], ok_based F60 C GR (PySem.W.mg_of X G a58) k58 b58, PySem.W.mg_of X G a60, k60, b60, .nil⟩⟩
  have cP : Cal l.prog w K mg base 3 "_law_plain" spPlain [] := ⟨⟨f61, _, _, [], ok_plain F61 C N, PySem.W.mg_of X G a61, k61, b61, .nil⟩⟩
  have cF : Cal l.prog w K mg base 1 "_law_fields" (spFields c) [] := ⟨⟨f62, _, _, [], ok_fields F62 C, PySem.W.mg_of X G a62, k62, b62, .nil⟩⟩
  have cN : Cal l.prog w K mg base 1 "_law_is_alien" (spAlien c) [] := ⟨⟨f63, _, _, [], ok_alien F63 T T2 C, PySem.W.mg_of X G a63, k63, b63, .nil⟩⟩
  exact ok_law F64 T C N cH cD cT cL cM cN cF cI cG cB cP
theorem walk {l : PySem.W.OpenLaw} {q : Program} {loose : List Str} {XP : (Str → Option Value) → Heap → Prop} {YP : World → Heap → Prop} {d : DefRec} {K : Params → PySem.W.Frag} (hn : l.most = some 63) (hdf : d.params.defaults = [])
    (hY : ∀ (w : World) (h : Heap), YP w h → (K w.params).In h)
    (F : ∀ (w : World) (mg : Str → Option Value) (fa : Addr) (h : Heap), (K w.params).In h → h.Ns mainGlobals mg → mg d.name = some (.ref fa) →
      ∃ fd : FuncData, (∀ (s : Shared) (u : Value), BindsTo s fd ⟨[u], []⟩ [("script", u)]) ∧ ∀ base : Heap, (K w.params).In base → base.Ns mainGlobals mg → FnOk l.prog w (K w.params) mg base CX0 44 fa fd ["script"] (spLaw (K w.params))) :
    PySem.W.WalkO q loose XP YP l.row.toRowW d [] (fun f vs => PySem.call f vs) :=
  L2.walk_of (n := 63) (k := 44) (x := "script") (CX := fun _ => CX0) (sp := fun w => spLaw (K w.params)) hn (by decide) hdf ⟨rfl, by decide, by decide⟩ hY F (fun _ _ a ns hl _ hS => ⟨a, ns, rfl, hS, hl, fun _ => rfl⟩) fun _ _ _ _ _ z => z
end K9
set_option Elab.async false
set_option linter.all false
open PySem PySem.W PyProof.Rows
set_option maxRecDepth 100000 in
set_option maxHeartbeats 0 in
theorem PySem.Challenge.cw_mapwebs_k00_errors_and_what_they_keep_holds : PySem.Challenge.rw_mapwebs_k00_errors_and_what_they_keep.Holds := by
  w_on; o_law; k_head; (case hw => w_witness2)
  k_fill
  refine K9.walk (l := PySem.Challenge.rw_mapwebs_k00_errors_and_what_they_keep) rfl rfl (fun w h Y => PySem.W.kIn_of Y) ?F
  case F =>
    intro w mg fa h KX G hmg
    refine' K9.all_mk KX G hmg ?gC0 ?gC1 ?gC2 ?gC3 ?gC4 ?gC5 ?gC6 ?gC7 ?gC8 ?gC9 ?gC10 ?gC11 ?gC12 ?gC13 ?gC14 ?gC15 ?gC16 ?gC17 ?gC18 ?gC19 ?gC20 ?gC21 ?gC22 ?gC23 ?gC24 ?gC25 ?gC26 ?gC27 ?gC28 ?gC29 ?gC30 ?gC31 ?gC32 ?gC33 ?gCW ?gCT ?a37 ?l37 ?c37 ?k37 ?a38 ?l38 ?c38 ?k38 ?a39 ?l39 ?c39 ?k39 ?a40 ?l40 ?c40 ?k40 ?a48 ?l48 ?c48 ?k48 ?a50 ?l50 ?c50 ?k50 ?a51 ?l51 ?c51 ?k51 ?a52 ?l52 ?c52 ?k52 ?a53 ?l53 ?c53 ?k53 ?a54 ?l54 ?c54 ?k54 ?a55 ?l55 ?c55 ?k55 ?a56 ?l56 ?c56 ?k56 ?a57 ?l57 ?c57 ?k57 ?a58 ?l58 ?c58 ?k58 ?a59 ?l59 ?c59 ?k59 ?a60 ?l60 ?c60 ?k60 ?a61 ?l61 ?c61 ?k61 ?a62 ?l62 ?c62 ?k62 ?a63 ?l63 ?c63 ?k63 ?a64 ?l64 ?c64 ?k64 ?aI0 ?iI0 ?lI0 ?cI0 ?kI0 ?aI1 ?iI1 ?lI1 ?cI1 ?kI1 ?aI2 ?iI2 ?lI2 ?cI2 ?kI2 ?aI3 ?iI3 ?lI3 ?cI3 ?kI3 ?aI4 ?iI4 ?lI4 ?cI4 ?kI4 ?aI5 ?iI5 ?lI5 ?cI5 ?kI5 ?aI6 ?iI6 ?lI6 ?cI6 ?kI6 ?aI7 ?iI7 ?lI7 ?cI7 ?kI7 ?aI33 ?iI33 ?lI33 ?cI33 ?kI33 ?aT ?iT ?lT ?cT ?kT ?aU ?iU ?lU ?cU ?kU ?aW ?iW ?lW ?cW ?kW ?aE ?iE ?lE ?cE ?kE ?ty0 ?ty1 ?ty2 ?ty3 ?ty4 ?ty5 ?ty6 ?ty7 ?ty33 ?xL0 ?xb0 ?xL1 ?xb1 ?xL2 ?xb2 ?xL3 ?xb3 ?xL4 ?xb4 ?xL5 ?xb5 ?xL6 ?xb6 ?xL7 ?xb7 ?xL8 ?xb8 ?xL9 ?xb9 ?xL10 ?xb10 ?xL11 ?xb11 ?xL12 ?xb12 ?xL13 ?xb13 ?xL14 ?xb14 ?xL15 ?xb15 ?xL16 ?xb16 ?xL17 ?xb17 ?xL18 ?xb18 ?xL19 ?xb19 ?xL20 ?xb20 ?xL21 ?xb21 ?xL22 ?xb22 ?xL23 ?xb23 ?xL24 ?xb24 ?xL25 ?xb25 ?xL26 ?xb26 ?xL27 ?xb27 ?xL28 ?xb28 ?xL29 ?xb29 ?xL30 ?xb30 ?xL31 ?xb31 ?xL32 ?xb32 ?xL33 ?xb33 ?okA ?prs ?ini ?nf0 ?nf1 ?nf2 ?nf3 ?nf4 ?nf5 ?nf6 ?naA ?ncA ?pgCW ?hdCW ?poCW ?saCW ?mkCW ?kcCW ?haCW ?hmCW ?icCW ?tcCW ?scCW ?nfCW ?sCWbool ?sCWtuple ?sCWlist ?rNoneTypeCW ?rboolCW ?rintCW ?rstrCW ?rdictCW ?rtupleCW ?rlistCW ?pgCT ?hdCT ?poCT ?saCT ?mkCT ?kcCT ?haCT ?hmCT ?icCT ?tcCT ?scCT ?nfCT ?sCTbool ?sCTtuple ?sCTlist ?rNoneTypeCT ?rboolCT ?rintCT ?rstrCT ?rdictCT ?rtupleCT ?rlistCT ?sTW ?sWT ?hn ?ht ?nmany ?narrows ?nprime ?nwide ?nrows ?nhigh ?v8 ?v12 ?vM ?vP ?lP ?zP ?rP ?zlen ?zint ?zbool ?zisi ?ztup ?zall ?zenum ?zlist ?zrng ?zmin ?zmax ?zsorted ?zset ?zstr ?zabs ?zve ?zlk ?zar ?zte ?zzip
    (case gC0 => k_is)
    (case gC1 => k_is)
    (case gC2 => k_is)
    (case gC3 => k_is)
    (case gC4 => k_is)
    (case gC5 => k_is)
    (case gC6 => k_is)
    (case gC7 => k_is)
    (case gC8 => k_is)
    (case gC9 => k_is)
    (case gC10 => k_is)
    (case gC11 => k_is)
    (case gC12 => k_is)
    (case gC13 => k_is)
    (case gC14 => k_is)
    (case gC15 => k_is)
    (case gC16 => k_is)
    (case gC17 => k_is)
    (case gC18 => k_is)
    (case gC19 => k_is)
    (case gC20 => k_is)
    (case gC21 => k_is)
    (case gC22 => k_is)
    (case gC23 => k_is)
    (case gC24 => k_is)
    (case gC25 => k_is)
    (case gC26 => k_is)
    (case gC27 => k_is)
    (case gC28 => k_is)
    (case gC29 => k_is)
    (case gC30 => k_is)
    (case gC31 => k_is)
    (case gC32 => k_is)
    (case gC33 => k_is)
    (case gCW => k_is)
    (case gCT => k_is)
    (case a37 => k_is)
    (case l37 => k_is)
    (case c37 => k_is)
    (case k37 => k_is)
    (case a38 => k_is)
    (case l38 => k_is)
    (case c38 => k_is)
    (case k38 => k_is)
    (case a39 => k_is)
    (case l39 => k_is)
    (case c39 => k_is)
    (case k39 => k_is)
    (case a40 => k_is)
    (case l40 => k_is)
    (case c40 => k_is)
    (case k40 => k_is)
    (case a48 => k_is)
    (case l48 => k_is)
    (case c48 => k_is)
    (case k48 => k_is)
    (case a50 => k_is)
    (case l50 => k_is)
    (case c50 => k_is)
    (case k50 => k_is)
    (case a51 => k_is)
    (case l51 => k_is)
    (case c51 => k_is)
    (case k51 => k_is)
    (case a52 => k_is)
    (case l52 => k_is)
    (case c52 => k_is)
    (case k52 => k_is)
    (case a53 => k_is)
    (case l53 => k_is)
    (case c53 => k_is)
    (case k53 => k_is)
    (case a54 => k_is)
    (case l54 => k_is)
    (case c54 => k_is)
    (case k54 => k_is)
    (case a55 => k_is)
    (case l55 => k_is)
    (case c55 => k_is)
    (case k55 => k_is)
    (case a56 => k_is)
    (case l56 => k_is)
    (case c56 => k_is)
    (case k56 => k_is)
    (case a57 => k_is)
    (case l57 => k_is)
    (case c57 => k_is)
    (case k57 => k_is)
    (case a58 => k_is)
    (case l58 => k_is)
    (case c58 => k_is)
    (case k58 => k_is)
    (case a59 => k_is)
    (case l59 => k_is)
    (case c59 => k_is)
    (case k59 => k_is)
    (case a60 => k_is)
    (case l60 => k_is)
    (case c60 => k_is)
    (case k60 => k_is)
    (case a61 => k_is)
    (case l61 => k_is)
    (case c61 => k_is)
    (case k61 => k_is)
    (case a62 => k_is)
    (case l62 => k_is)
    (case c62 => k_is)
    (case k62 => k_is)
    (case a63 => k_is)
    (case l63 => k_is)
    (case c63 => k_is)
    (case k63 => k_is)
    (case a64 => k_is)
    (case l64 => k_is)
    (case c64 => k_is)
    (case k64 => k_is)
    (case aI0 => k_is)
    (case iI0 => k_is)
    (case lI0 => k_is)
    (case cI0 => k_is)
    (case kI0 => k_is)
    (case aI1 => k_is)
    (case iI1 => k_is)
    (case lI1 => k_is)
    (case cI1 => k_is)
    (case kI1 => k_is)
    (case aI2 => k_is)
    (case iI2 => k_is)
    (case lI2 => k_is)
    (case cI2 => k_is)
    (case kI2 => k_is)
    (case aI3 => k_is)
    (case iI3 => k_is)
    (case lI3 => k_is)
    (case cI3 => k_is)
    (case kI3 => k_is)
    (case aI4 => k_is)
    (case iI4 => k_is)
    (case lI4 => k_is)
    (case cI4 => k_is)
    (case kI4 => k_is)
    (case aI5 => k_is)
    (case iI5 => k_is)
    (case lI5 => k_is)
    (case cI5 => k_is)
    (case kI5 => k_is)
    (case aI6 => k_is)
    (case iI6 => k_is)
    (case lI6 => k_is)
    (case cI6 => k_is)
    (case kI6 => k_is)
    (case aI7 => k_is)
    (case iI7 => k_is)
    (case lI7 => k_is)
    (case cI7 => k_is)
    (case kI7 => k_is)
    (case aI33 => k_is)
    (case iI33 => k_is)
    (case lI33 => k_is)
    (case cI33 => k_is)
    (case kI33 => k_is)
    (case aT => k_is)
    (case iT => k_is)
    (case lT => k_is)
    (case cT => k_is)
    (case kT => k_is)
    (case aU => k_is)
    (case iU => k_is)
    (case lU => k_is)
    (case cU => k_is)
    (case kU => k_is)
    (case aW => k_is)
    (case iW => k_is)
    (case lW => k_is)
    (case cW => k_is)
    (case kW => k_is)
    (case aE => k_is)
    (case iE => k_is)
    (case lE => k_is)
    (case cE => k_is)
    (case kE => k_is)
    (case ty0 => k_is)
    (case ty1 => k_is)
    (case ty2 => k_is)
    (case ty3 => k_is)
    (case ty4 => k_is)
    (case ty5 => k_is)
    (case ty6 => k_is)
    (case ty7 => k_is)
    (case ty33 => k_is)
    (case xL0 => k_is)
    (case xb0 => decide +kernel)
    (case xL1 => k_is)
    (case xb1 => decide +kernel)
    (case xL2 => k_is)
    (case xb2 => decide +kernel)
    (case xL3 => k_is)
    (case xb3 => decide +kernel)
    (case xL4 => k_is)
    (case xb4 => decide +kernel)
    (case xL5 => k_is)
    (case xb5 => decide +kernel)
    (case xL6 => k_is)
    (case xb6 => decide +kernel)
    (case xL7 => k_is)
    (case xb7 => decide +kernel)
    (case xL8 => k_is)
    (case xb8 => decide +kernel)
    (case xL9 => k_is)
    (case xb9 => decide +kernel)
    (case xL10 => k_is)
    (case xb10 => decide +kernel)
    (case xL11 => k_is)
    (case xb11 => decide +kernel)
    (case xL12 => k_is)
    (case xb12 => decide +kernel)
    (case xL13 => k_is)
    (case xb13 => decide +kernel)
    (case xL14 => k_is)
    (case xb14 => decide +kernel)
    (case xL15 => k_is)
    (case xb15 => decide +kernel)
    (case xL16 => k_is)
    (case xb16 => decide +kernel)
    (case xL17 => k_is)
    (case xb17 => decide +kernel)
    (case xL18 => k_is)
    (case xb18 => decide +kernel)
    (case xL19 => k_is)
    (case xb19 => decide +kernel)
    (case xL20 => k_is)
    (case xb20 => decide +kernel)
    (case xL21 => k_is)
    (case xb21 => decide +kernel)
    (case xL22 => k_is)
    (case xb22 => decide +kernel)
    (case xL23 => k_is)
    (case xb23 => decide +kernel)
    (case xL24 => k_is)
    (case xb24 => decide +kernel)
    (case xL25 => k_is)
    (case xb25 => decide +kernel)
    (case xL26 => k_is)
    (case xb26 => decide +kernel)
    (case xL27 => k_is)
    (case xb27 => decide +kernel)
    (case xL28 => k_is)
    (case xb28 => decide +kernel)
    (case xL29 => k_is)
    (case xb29 => decide +kernel)
    (case xL30 => k_is)
    (case xb30 => decide +kernel)
    (case xL31 => k_is)
    (case xb31 => decide +kernel)
    (case xL32 => k_is)
    (case xb32 => decide +kernel)
    (case xL33 => k_is)
    (case xb33 => decide +kernel)
    (case okA => kernel_rfl)
    (case prs => kernel_rfl)
    (case ini => kernel_rfl)
    (case nf0 => k_is)
    (case nf1 => k_is)
    (case nf2 => k_is)
    (case nf3 => k_is)
    (case nf4 => k_is)
    (case nf5 => k_is)
    (case nf6 => k_is)
    (case naA => k_is)
    (case ncA => k_is)
    (case pgCW => k_is)
    (case hdCW => k_is)
    (case poCW => k_is)
    (case saCW => k_is)
    (case mkCW => k_is)
    (case kcCW => k_is)
    (case haCW => k_is)
    (case hmCW => k_is)
    (case icCW => k_is)
    (case tcCW => k_is)
    (case scCW => first | rfl | k_is)
    (case nfCW => k_is)
    (case sCWbool => k_is)
    (case sCWtuple => k_is)
    (case sCWlist => k_is)
    (case rNoneTypeCW => k_is)
    (case rboolCW => k_is)
    (case rintCW => k_is)
    (case rstrCW => k_is)
    (case rdictCW => k_is)
    (case rtupleCW => k_is)
    (case rlistCW => k_is)
    (case pgCT => k_is)
    (case hdCT => k_is)
    (case poCT => k_is)
    (case saCT => k_is)
    (case mkCT => k_is)
    (case kcCT => k_is)
    (case haCT => k_is)
    (case hmCT => k_is)
    (case icCT => k_is)
    (case tcCT => k_is)
    (case scCT => first | rfl | k_is)
    (case nfCT => k_is)
    (case sCTbool => k_is)
    (case sCTtuple => k_is)
    (case sCTlist => k_is)
    (case rNoneTypeCT => k_is)
    (case rboolCT => k_is)
    (case rintCT => k_is)
    (case rstrCT => k_is)
    (case rdictCT => k_is)
    (case rtupleCT => k_is)
    (case rlistCT => k_is)
    (case sTW => k_is)
    (case sWT => k_is)
    (case hn => k_is)
    (case ht => k_is)
    (case nmany => k_is)
    (case narrows => k_is)
    (case nprime => k_is)
    (case nwide => k_is)
    (case nrows => k_is)
    (case nhigh => k_is)
    (case v8 => k_is)
    (case v12 => k_is)
    (case vM => k_is)
    (case vP => k_is)
    (case lP => k_is)
    (case zP => decide +kernel)
    (case rP => exact .cons ⟨_, rfl⟩ (.cons ⟨_, rfl⟩ (.cons ⟨_, rfl⟩ (.cons ⟨_, rfl⟩ (.cons ⟨_, rfl⟩ (.cons ⟨_, rfl⟩ .nil))))))
    (case zlen => k_is)
    (case zint => k_is)
    (case zbool => k_is)
    (case zisi => k_is)
    (case ztup => k_is)
    (case zall => k_is)
    (case zenum => k_is)
    (case zlist => k_is)
    (case zrng => k_is)
    (case zmin => k_is)
    (case zmax => k_is)
    (case zsorted => k_is)
    (case zset => k_is)
    (case zstr => k_is)
    (case zabs => k_is)
    (case zve => k_is)
    (case zlk => k_is)
    (case zar => k_is)
    (case zte => k_is)
    (case zzip => k_is)
