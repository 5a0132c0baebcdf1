import PyProof.Rows.All
import Wide.All
import OpenK.AllK
import Wide.FinOn
import HandS.ForMost
import HandS.Codes
import HandS.IsInst
import HandS.OwnEq
import KE.GoesMore
import HandS.Iter
import HandS.ForExc
import HandS.ExcInit
import HandS.ExcField
import KE.KExcIs
import HandS.TupAny
import HandS.Style
import HandS.SetFor
import HandS.Strs
import HandS.Conv
import PySem.Challenge.RW_mapwebs_k09_webs_and_their_parts
set_option Elab.async false
set_option linter.all false
set_option maxRecDepth 100000
set_option maxHeartbeats 4000000
namespace K9
open PySem L2
def top (i : Nat) : Stmt := PySem.Challenge.pw_mapwebs_k09_webs_and_their_parts.main.body.getD i (.Pass ⟨0, 0, 0, 0⟩)
abbrev sDraw : Stmt := top 22
abbrev sAny : Stmt := top 23
/-- the pot stands at a: a list of the cells' list and four ints -/
def PotAt (H : Hp) (a : Addr) : Prop := ∃ (c : Addr) (ns : List Int) (i : Nat) (z s n : Int), H a = some (.lst [.ref c, .int (i : Int), .int z, .int s, .int n]) ∧ H c = some (.lst (ns.map V.int))
/-- a step that changes nothing but the pot, and makes new things -/
structure Go (a : Addr) (H H' : Hp) : Prop where
  pot : PotAt H' a
  keep : ∀ b o, b ≠ a → H b = some o → H' b = some o
  cell : ∀ (c : Addr) (xs : List V), H a = some (.lst (.ref c :: xs)) → ∃ ys, H' a = some (.lst (.ref c :: ys))
theorem Go.trans {a : Addr} {H H1 H2 : Hp} (x : Go a H H1) (y : Go a H1 H2) : Go a H H2 := ⟨y.1, fun b o n e => y.2 b o n (x.2 b o n e), fun c xs h => let ⟨ys, h'⟩ := x.3 c xs h; y.3 c ys h'⟩
theorem Go.refl {a : Addr} {H : Hp} (x : PotAt H a) : Go a H H := ⟨x, fun _ _ _ e => e, fun _ xs h => ⟨xs, h⟩⟩
theorem PotAt.ne {H : Hp} {a : Addr} (x : PotAt H a) {b : Addr} (h : H b = none) : a ≠ b := by
  obtain ⟨c, ns, i, z, s, n, h1, _⟩ := x
  exact ne_of_none h1 h
theorem PotAt.upd {H : Hp} {a : Addr} (x : PotAt H a) {b : Addr} {o : HO} (h : H b = none) : PotAt (upd H b o) a := by
  obtain ⟨c, ns, i, z, s, n, h1, h2⟩ := x
  exact ⟨c, ns, i, z, s, n, by rw [upd_ne (ne_of_none h1 h)]; exact h1, by rw [upd_ne (ne_of_none h2 h)]; exact h2⟩
theorem Go.new {a : Addr} {H : Hp} (x : PotAt H a) {b : Addr} {o : HO} (h : H b = none) : Go a H (upd H b o) := ⟨x.upd h, fun c u n e => by rw [upd_ne (ne_of_none e h)]; exact e, fun c xs e => ⟨xs, by rw [upd_ne (ne_of_none e h)]; exact e⟩⟩
/-- a store in the pot -/
theorem PotAt.put {H : Hp} {a c : Addr} {ns : List Int} {i : Nat} {z s n : Int} {xs : List V} (h1 : H a = some (.lst xs)) (h2 : H c = some (.lst (ns.map V.int))) (hc : c ≠ a) (i' : Nat) (z' s' n' : Int) :
    PotAt (L2.upd H a (.lst [.ref c, .int (i' : Int), .int z', .int s', .int n'])) a := ⟨c, ns, i', z', s', n', upd_same, by rw [upd_ne hc]; exact h2⟩
def spDraw : Sp := fun vs H Q _ => ∃ (a : Addr) (m : Int), vs = [.ref a, .int m] ∧ PotAt H a ∧ 0 < m ∧ m < 1000000 ∧ ∀ (r : Int) (H' : Hp), 0 ≤ r → r < m → Go a H H' → Q (.int r) H'
structure Bl (mg : Str → Option Value) : Prop where
  len : mg "len" = none
  int : mg "int" = none
theorem upd_upd {H : Hp} {a : Addr} {o u : HO} : upd (upd H a o) a u = upd H a u := by
  funext b
  by_cases h : b = a
  · rw [h, upd_same, upd_same]
  · rw [upd_ne h, upd_ne h, upd_ne h]
section
variable {P : Program} {w : World} {K : PySem.W.Frag} {mg : Str → Option Value} {base : Heap}
theorem scD : FnScope ["pot", "many", "cell", "digit", "number"] ["pot", "many"] (defScope sDraw) := ⟨rfl, rfl, rfl, by decide +kernel, rfl, by decide +kernel, by decide +kernel⟩
theorem ok_draw {f : Addr} {fd : FuncData} (F : Fun K "_law_draw" "_law_draw" sDraw f fd) (T : Bl mg) : FnOk P w K mg base CX0 1 f fd ["pot", "many"] spDraw := by
  refine F.ok scD (fun vs H Q E h => ?_) (fun cdv A outer s H vs Q E hr h => ?_)
  · obtain ⟨a, m, rfl, _⟩ := h
    rfl
  · obtain ⟨a, m, rfl, ⟨c, ns, i, z, t, n, h1, h2⟩, hm, hm2, k⟩ := h
    have hca : c ≠ a := ne_of h2 h1 (by intro q; cases ns <;> cases q)
    refine ⟨_, C8.pss_cut (ps_if (PW.pt (pw_and (pt_cmpR op_eq (pe_ix ix_list (pv 0) pe_int (fun _ _ => rfl)) pe_int (nomark _)) (pw_and1 (pt_cmpR op_lt (pe_ix ix_list (pv 0) pe_int (fun _ _ => rfl)) (pe_callB call_len_seq (by rfl) T.len PySem.boot_len (pa_cons (pe_ix ix_list (pv 0) pe_int (fun _ _ => rfl)) pa_nil)) (nomark _)))))
        (pss_cons (ps_set (i := 2) scD.nd rfl (Or.inl rfl) (pe_ix ix_list (pe_ix ix_list (pv 0) pe_int (fun _ _ => rfl)) (pe_ix ix_list (pv 0) pe_int (fun _ _ => rfl)) (fun _ _ => rfl)))
        (pss_cons (ps_asg (pe_op op_add (pe_ix ix_list (pv 0) pe_int (fun _ _ => rfl)) pe_int) (pg_sub (pv 0) pe_int set_list))
        (pss_cons (ps_asg (pe_op op_mod (pe_callTy call_int1 (by rfl) T.int (by decide +kernel) (pa_cons (pe_op op_add (pe_op op_add (pe_op op_mul (pe_ix ix_list (pv 0) pe_int (fun _ _ => rfl)) pe_int) (pv 2)) pe_int) pa_nil)) pe_int) (pg_sub (pv 0) pe_int set_list))
        (pss_one (ps_if (pt_cmpR op_ge (pv 2) (pe_op op_pow pe_int pe_int) (nomark _)) (pss_one (ps_asg (pv 2) (pg_sub (pv 0) pe_int set_list))) pss_nil)))))
        pss_nil)
      (pss_cons (ps_if (pt_cmpR op_gt (pe_ix ix_list (pv 0) pe_int (fun _ _ => rfl)) pe_int (nomark _))
        (pss_cons (ps_set (i := 3) scD.nd rfl (Or.inl rfl) (pe_op op_mod (pe_callTy call_int1 (by rfl) T.int (by decide +kernel) (pa_cons (pe_ix ix_list (pv 0) pe_int (fun _ _ => rfl)) pa_nil)) (pv 1)))
        (pss_cons (ps_asg (pe_op op_fdiv (pe_ix ix_list (pv 0) pe_int (fun _ _ => rfl)) (pv 1)) (pg_sub (pv 0) pe_int set_list))
        (pss_one (ps_ret (pv 3))))) pss_nil)
      (pss_cons (ps_asg (pe_op op_add (pe_ix ix_list (pv 0) pe_int (fun _ _ => rfl)) pe_int) (pg_sub (pv 0) pe_int set_list))
      (pss_cons (ps_set (i := 4) scD.nd rfl (Or.inl rfl) (pe_op op_mod (pe_callTy call_int1 (by rfl) T.int (by decide +kernel) (pa_cons (pe_op op_mul (pe_callTy call_int1 (by rfl) T.int (by decide +kernel) (pa_cons (pe_op op_add (pe_ix ix_list (pv 0) pe_int (fun _ _ => rfl)) (pe_op op_mul pe_int (pe_ix ix_list (pv 0) pe_int (fun _ _ => rfl)))) pa_nil)) pe_int) pa_nil)) pe_int))
      (pss_cons (ps_set (i := 4) scD.nd rfl (Or.inl rfl) (pe_op op_mod (pe_callTy call_int1 (by rfl) T.int (by decide +kernel) (pa_cons (pe_op op_mul (pv 4) (pe_op op_add (pe_op op_fdiv (pv 4) pe_int) pe_int)) pa_nil)) pe_int))
      (pss_cons (ps_set (i := 4) scD.nd rfl (Or.inl rfl) (pe_op op_mod (pe_callTy call_int1 (by rfl) T.int (by decide +kernel) (pa_cons (pe_op op_mul (pv 4) (pe_op op_add (pe_op op_fdiv (pv 4) pe_int) pe_int)) pa_nil)) pe_int))
      (pss_one (ps_ret (pe_op op_mod (pe_callTy call_int1 (by rfl) T.int (by decide +kernel) (pa_cons (pe_op op_fdiv (pv 4) pe_int) pa_nil)) (pv 1))))))))), ?_⟩
    refine ⟨fun σ' H' => (∃ v, σ' = [some (.ref a), some (.int m), v, Option.none, Option.none]) ∧ Go a H H', ?_, ?_⟩
    · -- the first if
      refine ⟨_, rfl, _, _, _, _, rfl, rfl, SqL.of h1, rfl, rfl, _, rfl, ?_⟩
      have base0 : Go a H H := Go.refl ⟨c, ns, i, z, t, n, h1, h2⟩
      refine ite2 (fun _ => ?_) (fun _ => ?_)
      · refine ⟨_, rfl, _, _, _, _, rfl, rfl, SqL.of h1, rfl, _, rfl, _, _, _, _, rfl, rfl, SqL.of h1, rfl, _, _, rfl, .inl (SqL.of h2), _, _, rfl, rfl, _, rfl, ?_⟩
        refine ite2 (fun e => ?_) (fun _ => ?_)
        · have hi : i < ns.length := by
            have e' := of_decide_eq_true e
            rw [List.length_map] at e'
            omega
          have hcell : (ns.map V.int)[i]? = some (V.int ns[i]) := by
            rw [List.getElem?_map, List.getElem?_eq_getElem hi] <;> rfl
          refine ⟨_, rfl, _, _, _, _, rfl, rfl, SqL.of h1, rfl, _, rfl, _, _, _, _, rfl, rfl, SqL.of h1, rfl, _, _, _, _, rfl, rfl, SqL.of h2, atI_nat hcell, ?_⟩
          refine ⟨_, rfl, _, _, _, _, rfl, rfl, SqL.of h1, rfl, _, _, rfl, rfl, _, rfl, _, _, _, _, rfl, rfl, h1, rfl, ?_⟩
          refine ⟨_, rfl, _, _, _, _, rfl, rfl, SqL.of upd_same, rfl, _, _, rfl, rfl, .inr (by decide), _, rfl, _, _, rfl, rfl, _, _, rfl, rfl, .inl ⟨_, rfl, _, _, rfl, rfl, (by show (0 : Int) < 2147483629; decide), _, rfl, _, _, _, _, rfl, rfl, upd_same, rfl, ?_⟩⟩
          refine ⟨_, rfl, _, _, rfl, rfl, ⟨by decide, by decide, by decide⟩, _, _, rfl, rfl, _, rfl, ?_⟩
          have fin : ∀ z' s' : Int, Go a H (upd H a (.lst [.ref c, .int ((i + 1 : Nat) : Int), .int z', .int s', .int n])) := fun z' s' => ⟨PotAt.put (i := i) (z := z) (s := t) (n := n) h1 h2 hca _ _ _ _, fun b o e q => by rw [upd_ne e]; exact q, fun c' xs h => by rw [h1] at h; cases h; exact ⟨_, upd_same⟩⟩
          refine ite2 (fun _ => ?_) (fun _ => ?_)
          · refine ⟨_, rfl, _, rfl, _, _, _, _, rfl, rfl, upd_same, rfl, ⟨_, rfl⟩, ?_⟩
            rw [upd_upd, upd_upd]
            exact fin _ _
          · refine ⟨⟨_, rfl⟩, ?_⟩
            rw [upd_upd]
            exact fin _ _
        · exact ⟨⟨_, rfl⟩, base0⟩
      · refine iteF ?_
        exact ⟨⟨_, rfl⟩, base0⟩
    · rintro σ' H' ⟨⟨v, rfl⟩, ⟨c, ns, i, z, t, n, h1, h2⟩, kp, k3⟩
      have hca : c ≠ a := ne_of h2 h1 (by intro q; cases ns <;> cases q)
      have fin : ∀ z' s' n' : Int, Go a H (upd H' a (.lst [.ref c, .int (i : Int), .int z', .int s', .int n'])) := fun z' s' n' => ⟨PotAt.put (i := i) (z := z) (s := t) (n := n) h1 h2 hca _ _ _ _, fun b o e q => by rw [upd_ne e]; exact kp b o e q, fun c' xs h => by obtain ⟨ys, h'⟩ := k3 c' xs h; rw [h1] at h'; cases h'; exact ⟨_, upd_same⟩⟩
      refine ⟨_, rfl, _, _, _, _, rfl, rfl, SqL.of h1, rfl, _, _, rfl, rfl, _, rfl, ?_⟩
      refine ite2 (fun _ => ?_) (fun _ => ?_)
      · refine ⟨_, rfl, _, _, _, _, rfl, rfl, SqL.of h1, rfl, .inl ⟨_, rfl, _, rfl, _, _, rfl, rfl, hm, ?_⟩⟩
        refine ⟨_, rfl, _, _, _, _, rfl, rfl, SqL.of h1, rfl, _, rfl, _, _, rfl, rfl, ⟨hm, by omega⟩, _, rfl, _, _, _, _, rfl, rfl, h1, rfl, _, rfl, ?_⟩
        exact k _ _ (Int.emod_nonneg _ (by omega)) (Int.emod_lt_of_pos _ hm) (fin _ _ _)
      · refine ⟨_, rfl, _, _, _, _, rfl, rfl, SqL.of h1, rfl, _, _, rfl, rfl, _, rfl, _, _, _, _, rfl, rfl, h1, rfl, ?_⟩
        refine ⟨_, rfl, _, _, _, _, rfl, rfl, SqL.of upd_same, rfl, _, rfl, _, _, _, _, rfl, rfl, SqL.of upd_same, rfl, _, _, rfl, rfl, .inl (by decide), _, _, rfl, rfl, .inl ⟨_, rfl, _, _, rfl, rfl, .inr (by decide), .inl ⟨_, rfl, _, _, rfl, rfl, (by show (0 : Int) < 2147483647; decide), ?_⟩⟩⟩
        have b1 := Int.emod_nonneg ((t + 7919 * (n + 1)) * 48271) (show (2147483647 : Int) ≠ 0 by decide)
        have b2 := Int.emod_lt_of_pos ((t + 7919 * (n + 1)) * 48271) (show (0 : Int) < 2147483647 by decide)
        refine ⟨_, rfl, _, rfl, _, _, rfl, rfl, ⟨by decide, by decide⟩, _, _, rfl, rfl, _, _, rfl, rfl, .inl ⟨by omega, by omega⟩, .inl ⟨_, rfl, _, _, rfl, rfl, (by show (0 : Int) < 2147483647; decide), ?_⟩⟩
        generalize (t + 7919 * (n + 1)) * 48271 % 2147483647 = y1 at *
        have b3 := Int.emod_nonneg (y1 * (y1 / 1009 + 69621)) (show (2147483647 : Int) ≠ 0 by decide)
        have b4 := Int.emod_lt_of_pos (y1 * (y1 / 1009 + 69621)) (show (0 : Int) < 2147483647 by decide)
        refine ⟨_, rfl, _, rfl, _, _, rfl, rfl, ⟨by decide, by decide⟩, _, _, rfl, rfl, _, _, rfl, rfl, .inl ⟨by omega, by omega⟩, .inl ⟨_, rfl, _, _, rfl, rfl, (by show (0 : Int) < 2147483399; decide), ?_⟩⟩
        refine ⟨_, rfl, _, _, rfl, rfl, ⟨by decide, by decide⟩, .inl ⟨_, rfl, _, rfl, _, _, rfl, rfl, hm, ?_⟩⟩
        exact k _ _ (Int.emod_nonneg _ (by omega)) (Int.emod_lt_of_pos _ hm) (fin _ _ _)
end
end K9
set_option Elab.async false
set_option linter.all false
set_option maxRecDepth 100000
set_option maxHeartbeats 4000000
namespace K9
open PySem L2
abbrev sInteger : Stmt := top 2
abbrev sNumber : Stmt := top 3
abbrev sArrow : Stmt := top 15
/-- built-ins that the text leaves as they are -/
structure Gb (mg : Str → Option Value) : Prop where
  len : mg "len" = none
  int : mg "int" = none
  bool : mg "bool" = none
  isi : mg "isinstance" = none
  tup : mg "tuple" = none
  all : mg "all" = none
  enum : mg "enumerate" = none
  list : mg "list" = none
  rng : mg "range" = none
  min : mg "min" = none
  max : mg "max" = none
  sorted : mg "sorted" = none
  set : mg "set" = none
  str : mg "str" = none
  abs : mg "abs" = none
  ve : mg "ValueError" = none
/-- what is expected of a caller of a plain def -/
abbrev Cal := @C8.Cal
def isI : V → Bool | .int _ => true | _ => false
def isB : V → Bool | .bl _ => true | _ => false
/-- a thing, as isinstance sees it; of a tuple also its items, n deep -/
def Th (K : PySem.W.Frag) (H : Hp) : Nat → V → Prop
  | n, x => ∃ t, TyX K H x t ∧ PySem.W.kitOne K t (.type "int") = some (isI x || isB x) ∧ PySem.W.kitOne K t (.type "bool") = some (isB x) ∧
    ((PySem.W.kitOne K t (.type "tuple") = some false ∧ ∀ a, x = .ref a → ∃ o, H a = some o ∧ ∀ xs, o ≠ .tup xs) ∨ (PySem.W.kitOne K t (.type "tuple") = some true ∧ ∃ a xs, x = .ref a ∧ H a = some (.tup xs) ∧
      match n with | 0 => True | m + 1 => ∀ y ∈ xs, Th K H m y))
theorem Th.zero {K : PySem.W.Frag} {H : Hp} {n : Nat} {x : V} (h : Th K H n x) : Th K H 0 x := by
  unfold Th at h ⊢
  obtain ⟨t, a, b, c, d⟩ := h
  refine ⟨t, a, b, c, ?_⟩
  rcases d with d | ⟨d, a, xs, e, f, _⟩
  · exact .inl d
  · exact .inr ⟨d, a, xs, e, f, True.intro⟩
def numV (m : Int) : V → Bool
  | .int i => decide (0 ≤ i) && decide (i ≤ m)
  | _ => false
theorem tyes_in {σ : L2.St} {H : Hp} {te : TE} {R : V → Hp → Prop} {N : Hp → Prop} (h : te σ H R) : tYes σ H (fun b H3 => if b = true then te σ H3 R else N H3) := by
  show (if true = true then te σ H R else N H)
  rw [if_pos rfl]
  exact h
theorem numV_true {m : Int} {x : V} : numV m x = true ↔ ∃ i, x = .int i ∧ 0 ≤ i ∧ i ≤ m := by
  cases x <;> simp [numV]
theorem TyOf.ext {K : PySem.W.Frag} {H H' : Hp} {x : V} {t : Value} (h : TyOf K H x t) (e : Ext H H') : TyOf K H' x t := by
  cases h with
  | non => exact .non
  | bl x => exact .bl x
  | int i => exact .int i
  | str x => exact .str x
  | flt x => exact .flt x
  | lst h => exact .lst (e _ _ h)
  | frz h => exact .frz (e _ _ h)
  | tup h => exact .tup (e _ _ h)
  | dK h => exact .dK (e _ _ h)
  | dT h => exact .dT (e _ _ h)
  | ins h c a b d f => exact .ins (e _ _ h) c a b d f
theorem TyX.ext {K : PySem.W.Frag} {H H' : Hp} {x : V} {t : Value} (h : TyX K H x t) (e : Ext H H') : TyX K H' x t := by
  cases h with
  | base h => exact .base (TyOf.ext h e)
  | byt b => exact .byt b
  | set h => exact .set (e _ _ h)
  | kList h c => exact .kList h c
  | kTuple h c => exact .kTuple h c
  | kDict h c => exact .kDict h c
  | fTuple h => exact .fTuple (e _ _ h)
  | fDict h => exact .fDict (e _ _ h)
theorem Th.ext {K : PySem.W.Frag} {H H' : Hp} (e : Ext H H') : ∀ {n : Nat} {x : V}, Th K H n x → Th K H' n x
  | 0, x, h => by
    unfold Th at h ⊢
    obtain ⟨t, a, b, c, d⟩ := h
    refine ⟨t, TyX.ext a e, b, c, ?_⟩
    rcases d with ⟨d, f⟩ | ⟨d, a, xs, g, f, _⟩
    · exact .inl ⟨d, fun a q => let ⟨o, h1, h2⟩ := f a q; ⟨o, e _ _ h1, h2⟩⟩
    · exact .inr ⟨d, a, xs, g, e _ _ f, True.intro⟩
  | n + 1, x, h => by
    unfold Th at h ⊢
    obtain ⟨t, a, b, c, d⟩ := h
    refine ⟨t, TyX.ext a e, b, c, ?_⟩
    rcases d with ⟨d, f⟩ | ⟨d, a, xs, g, f, i⟩
    · exact .inl ⟨d, fun a q => let ⟨o, h1, h2⟩ := f a q; ⟨o, e _ _ h1, h2⟩⟩
    · exact .inr ⟨d, a, xs, g, e _ _ f, fun y hy => Th.ext e (i y hy)⟩
/-- an arrow of m places -/
def isArr (H : Hp) (m : Int) (x : V) : Prop := ∃ (a : Addr) (p q : Int), x = .ref a ∧ H a = some (.tup [.int p, .int q]) ∧ 0 ≤ p ∧ p < m ∧ 0 ≤ q ∧ q < m
def spInteger (K : PySem.W.Frag) : Sp := fun vs H Q _ => ∃ x : V, vs = [x] ∧ Th K H 0 x ∧ Q (.bl (isI x)) H
def spNumber (K : PySem.W.Frag) : Sp := fun vs H Q _ => ∃ (m : Int) (x : V), vs = [.int m, x] ∧ Th K H 0 x ∧ Q (.bl (numV m x)) H
def spArrow (K : PySem.W.Frag) : Sp := fun vs H Q _ => ∃ (m : Int) (x : V), vs = [.int m, x] ∧ Th K H 1 x ∧ ∀ (b : Bool) (H' : Hp), (b = true ↔ isArr H m x) → Ext H H' → Q (.bl b) H'
section
variable {P : Program} {w : World} {K : PySem.W.Frag} {mg : Str → Option Value} {base : Heap}
theorem scInt : FnScope ["thing"] ["thing"] (defScope sInteger) := ⟨rfl, rfl, rfl, by decide +kernel, rfl, by decide +kernel, by decide +kernel⟩
theorem ok_integer {f : Addr} {fd : FuncData} (F : L2.Fun K "is_integer" "is_integer" sInteger f fd) (T : Gb mg) : FnOk P w K mg base CX0 1 f fd ["thing"] (spInteger K) := by
  refine F.ok scInt (fun vs H Q E h => ?_) (fun cdv A outer s H vs Q E hr h => ?_)
  · obtain ⟨x, rfl, _⟩ := h
    rfl
  · obtain ⟨x, rfl, th, k⟩ := h
    unfold Th at th
    obtain ⟨t, ty, ki, kb, _⟩ := th
    refine ⟨_, pss_one (ps_ret (pe_and (pe_callB call_isi (by rfl) T.isi (by decide +kernel) (pa_cons (pv 0) (pa_cons (pe_bltn (v := .ty "int") (by rfl) T.int (by decide +kernel) rfl) pa_nil)))
      (pe_one (pe_not (pe_callB call_isi (by rfl) T.isi (by decide +kernel) (pa_cons (pv 0) (pa_cons (pe_bltn (v := .ty "bool") (by rfl) T.bool (by decide +kernel) rfl) pa_nil))))))), ?_⟩
    refine ⟨_, rfl, x, .ty "int", t, .type "int", _, rfl, .ty _, ty, ki, _, rfl, ?_⟩
    cases x <;> first
      | exact iteF k
      | (refine iteT ⟨_, rfl, _, .ty "bool", t, .type "bool", _, rfl, .ty _, ty, kb, _, rfl, ?_⟩; exact k)
theorem scNum : FnScope ["most", "thing"] ["most", "thing"] (defScope sNumber) := ⟨rfl, rfl, rfl, by decide +kernel, rfl, by decide +kernel, by decide +kernel⟩
theorem ok_number {f : Addr} {fd : FuncData} (F : L2.Fun K "is_number" "is_number" sNumber f fd) (cI : Cal P w K mg base 1 "is_integer" (spInteger K) []) : FnOk P w K mg base CX0 2 f fd ["most", "thing"] (spNumber K) := by
  refine F.ok scNum (fun vs H Q E h => ?_) (fun cdv A outer s H vs Q E hr h => ?_)
  · obtain ⟨m, x, rfl, _⟩ := h
    rfl
  · obtain ⟨m, x, rfl, th, k⟩ := h
    refine ⟨_, pss_one (ps_ret (pe_and (C8.pe_c cI hr (by decide) (by rfl) (pa_cons (pv 1) pa_nil)) (pe_one (pe_chain op_le op_le pe_int (pv 1) (pv 0))))), ?_⟩
    refine ⟨_, rfl, x, rfl, th, _, rfl, ?_⟩
    cases x with
    | int i =>
      refine iteT ⟨_, rfl, _, _, rfl, rfl, _, rfl, ?_⟩
      by_cases h0 : (0 : Int) ≤ i
      · rw [decide_eq_true h0]
        refine iteT ⟨_, rfl, _, _, rfl, rfl, ?_⟩
        have e : numV m (.int i) = decide (i ≤ m) := by simp [numV, h0]
        rw [e] at k
        exact k
      · rw [decide_eq_false h0]
        have e : numV m (.int i) = false := by simp [numV, h0]
        rw [e] at k
        exact iteF k
    | _ => exact iteF k
theorem scArr : FnScope ["many", "thing", "place"] ["many", "thing"] (defScope sArrow) := ⟨rfl, rfl, rfl, by decide +kernel, rfl, by decide +kernel, by decide +kernel⟩
theorem ok_arrow {f : Addr} {fd : FuncData} (F : L2.Fun K "is_arrow" "is_arrow" sArrow f fd) (T : Gb mg) (cN : Cal P w K mg base 2 "is_number" (spNumber K) []) : FnOk P w K mg base CX0 3 f fd ["many", "thing"] (spArrow K) := by
  refine F.ok scArr (fun vs H Q E h => ?_) (fun cdv A outer s H vs Q E hr h => ?_)
  · obtain ⟨m, x, rfl, _⟩ := h
    rfl
  · obtain ⟨m, x, rfl, th, k⟩ := h
    unfold Th at th
    obtain ⟨t, ty, ki, kb, kt⟩ := th
    refine ⟨_, pss_cons (ps_if (PW.pt (pw_or (pt_not (pt_val (pe_callB call_isi (by rfl) T.isi (by decide +kernel) (pa_cons (pv 1) (pa_cons (pe_bltn (v := .ty "tuple") (by rfl) T.tup (by decide +kernel) rfl) pa_nil)))))
        (pw_or1 (pt_cmpR op_ne (pe_callB call_len_seq (by rfl) T.len PySem.boot_len (pa_cons (pv 1) pa_nil)) pe_int (nomark _))))) (pss_one (ps_ret pe_bl)) pss_nil)
      (pss_one (ps_ret (pe_callB (cr_all rfl) (by rfl) T.all (by decide +kernel) (pa_cons (pe_lc (own := [("place", 2)]) (g := gName 2) (tt := tYes) rfl scArr.nd (pi_tup (pv 1)) (blkOk_by (N := ["many", "thing", "place"]) (sc := defScope sArrow) (by decide +kernel)) (fun _ _ _ _ _ => pg_name (i := 2) scArr.nd rfl (Or.inl rfl)) (fun _ _ _ _ _ => pts_nil)
        (fun _ _ _ _ _ => C8.pe_c cN hr (by decide) (by rfl) (pa_cons (pe_op op_sub (pv 0) pe_int) (pa_cons (pv 2) pa_nil)))) pa_nil)))), ?_⟩
    rcases kt with ⟨kt, nt⟩ | ⟨kt, a, xs, rfl, ha, it⟩
    · refine ⟨_, rfl, x, .ty "tuple", t, .type "tuple", _, rfl, .ty _, ty, kt, _, rfl, ?_⟩
      refine iteT (iteT ?_)
      refine k false H ⟨fun z => Bool.noConfusion z, fun ⟨a, p, q, e, ha, _⟩ => by obtain ⟨o, h1, h2⟩ := nt a e; rw [ha] at h1; cases h1; exact absurd rfl (h2 _)⟩ Ext.rfl'
    · refine ⟨_, rfl, _, .ty "tuple", t, .type "tuple", _, rfl, .ty _, ty, kt, _, rfl, ?_⟩
      refine iteF ?_
      refine ⟨_, rfl, a, xs, rfl, .inr (SqT.of ha), rfl, _, rfl, ?_⟩
      by_cases hl : xs.length = 2
      · have hl' : (!decide (V.int (xs.length : Int) = V.int 2)) = false := by rw [hl]; rfl
        rw [hl']
        refine iteF ?_
        refine ⟨_, rfl, a, rfl, ⟨_, SqT.of ha⟩, fun D hD => ?_⟩
        have hda : a ≠ D := ne_of_none ha hD
        refine lc_tup (K := K) (a := a) (xs := xs) (fun i H' => H' = upd H D (.lst (((xs.take i).map (numV (m - 1))).map V.bl))) (by simp) (fun i H' _ e => by subst e; exact SqT.of (by rw [upd_ne hda]; exact ha)) ?_ ?_
        · rintro i y H' hi rfl
          refine ⟨rfl, tyes_in ?_⟩
          have hy : y ∈ xs := List.mem_of_getElem? hi
          have it' : ∀ y ∈ xs, Th K H 0 y := it
          have ty0 : Th K (upd H D (.lst (((xs.take i).map (numV (m - 1))).map V.bl))) 0 y := (it' y hy).ext (Ext.upd hD)
          refine ⟨_, rfl, _, _, rfl, rfl, _, rfl, m - 1, y, rfl, ty0, _, upd_same, small1000 (by simp; omega), ?_⟩
          rw [upd_upd, List.take_succ, hi]
          simp
        · rintro H' rfl
          refine ⟨D, (xs.take xs.length).map (numV (m - 1)), rfl, SqL.of upd_same, ?_⟩
          refine k _ _ ?_ (Ext.upd hD)
          match xs, hl with
          | [u, v], _ =>
            show (numV (m - 1) u && (numV (m - 1) v && true)) = true ↔ _
            rw [Bool.and_true, Bool.and_eq_true, numV_true, numV_true]
            constructor
            · rintro ⟨⟨p, rfl, hp⟩, ⟨q, rfl, hq⟩⟩
              exact ⟨a, p, q, rfl, ha, hp.1, by omega, hq.1, by omega⟩
            · rintro ⟨b, p, q, e, hb, h1, h2, h3, h4⟩
              cases e
              rw [ha] at hb
              cases hb
              exact ⟨⟨p, rfl, h1, by omega⟩, ⟨q, rfl, h3, by omega⟩⟩
      · have hl' : (!decide (V.int (xs.length : Int) = V.int 2)) = true := by
          have : ¬ (V.int (xs.length : Int) = V.int 2) := fun z => hl (by injection z with z; omega)
          simp [this]
        rw [hl']
        refine iteT ?_
        refine k false H ⟨fun z => Bool.noConfusion z, fun ⟨b, p, q, e, hb, _⟩ => ?_⟩ Ext.rfl'
        cases e
        rw [ha] at hb
        cases hb
        exact absurd rfl hl
end
end K9
set_option Elab.async false
set_option linter.all false
set_option maxRecDepth 100000
set_option maxHeartbeats 4000000
/-! enumerate over a tuple that is tracked: the iterator (by the library's WalksT.enumerateD over Draws.tuple), the rule of the layer, the loop. -/
namespace K9
open PySem L2 PyProof.Rows
open PySem.Sem (wp)
theorem en_new (l : Addr) (us : Array Value) (n : Nat) (dd : Option Addr) (sl : Array (Option Value)) :
    Meets (Builtin.«enumerate.__new__» ⟨[.type "enumerate", .ref l], []⟩) fun _ R s => s.heap.get? l = some { cls := .type "tuple", dict := dd, data := .seq us n, slots := sl } ∧
      R (.ok (.ret (.ref (s.heap.objs.size + 1)))) { s with heap := (s.heap.push { cls := .type "tuple_iterator", data := .fields #[.ref l, .int 0 0] }).push { cls := .type "enumerate", data := .fields #[.none, .bool false, .ref s.heap.objs.size, rawInt 0, .none, .none] } } := by
  refine .of_wp fun prog w A R s hh => ?_
  rcases s with ⟨hp, gs, dr, tk, os⟩
  rcases hh with ⟨there, hR⟩
  have isT : Heap.IsTuple (Shared.heap ⟨hp, gs, dr, tk, os⟩) l us := ⟨_, there, rfl, n, rfl⟩
  have same := sub_enumerate
  have big : (hp.push { cls := .type "tuple_iterator", data := .fields #[.ref l, .int 0 0] }).objs.size = hp.objs.size + 1 := Heap.size_push ..
  have hR' : R (.ok (.ret (.ref (hp.push { cls := .type "tuple_iterator", data := .fields #[.ref l, .int 0 0] }).objs.size))) ⟨(hp.push { cls := .type "tuple_iterator", data := .fields #[.ref l, .int 0 0] }).push { cls := .type "enumerate", data := .fields #[.none, .bool false, .ref hp.objs.size, rawInt 0, .none, .none] }, gs, dr, tk, os⟩ := by
    rw [big]; exact hR
  wp_walk using AutoSeq1.wpAny_loadPart' there
  refine wpAny_stack_any fun st => wpAny_pure ?_
  split
  · rename_i c _ _ _ _ _
    cases (c == Value.type "enumerate") <;>
    · wp_walk using AutoSeq1.wpAny_loadPart' there, wpAny_pyIter_tuple isT
      exact ⟨_, rfl, hR'⟩
  · wp_walk using AutoSeq1.wpAny_loadPart' there, wpAny_pyIter_tuple isT
    exact ⟨_, rfl, hR'⟩
theorem call_en {prog : Program} {w : World} {A : Around} {E : Value → Shared → Prop} {s : Shared} {l : Addr} {us : Array Value} {Q : Value → Shared → Prop} (isT : s.heap.IsTuple l us)
    (h : ∀ h' : Heap, IsEnum h' (s.heap.objs.size + 1) s.heap.objs.size 0 .none → h'.IsTupleIter s.heap.objs.size l 0 → (∀ b o, s.heap.get? b = some o → h'.get? b = some o) → Q (.ref (s.heap.objs.size + 1)) { s with heap := h' }) :
    wpAny (model prog w) A (call (.type "enumerate") [.ref l]) Q E s := by
  rcases isT with ⟨⟨c, dd, dt, sl⟩, there, hc, n, hd⟩
  obtain rfl : c = .type "tuple" := hc
  obtain rfl : dt = .seq us n := hd
  refine callType_new F.called_enumerate (by decide) (F.typeCall_enumerate_1 _) (F.newCall_enumerate_1 _) (fun obj => F.args_object_init_2 obj _) F.entry_enumerate_new (en_new l us n dd sl) ⟨there, ?_⟩
  have big : (s.heap.push { cls := .type "tuple_iterator", data := .fields #[.ref l, .int 0 0] }).objs.size = s.heap.objs.size + 1 := Heap.size_push ..
  have en : IsEnum ((s.heap.push { cls := .type "tuple_iterator", data := .fields #[.ref l, .int 0 0] }).push { cls := .type "enumerate", data := .fields #[.none, .bool false, .ref s.heap.objs.size, rawInt 0, .none, .none] }) (s.heap.objs.size + 1) s.heap.objs.size 0 .none := by
    rw [← big]
    exact Heap.get?_push_size _ rfl
  exact ⟨⟨_, en, rfl⟩, h _ en ⟨_, Heap.get?_push_of_some _ (Heap.get?_push_size _ rfl), rfl, rfl⟩ fun b o z => Heap.get?_push_of_some _ (Heap.get?_push_of_some _ z)⟩
/-- the items of the tracked tuple at a, each in a new pair with its number -/
def ItEn (a : Addr) : It where
  go := fun i H => ∃ (xs : List V) (x : V), H a = some (.tup xs) ∧ xs[i]? = some x
  yld := fun i H v H' => ∃ (p : Addr) (x : V), v = .ref p ∧ H p = none ∧ H' = upd H p (.tup [.int (i : Nat), x]) ∧ ∀ xs, H a = some (.tup xs) → xs[i]? = some x
  stop := fun i H => ∃ xs : List V, H a = some (.tup xs) ∧ xs.length = i
def enAt (a e it : Addr) (i : Nat) (h : Heap) : Prop := (∃ old, IsEnum h e it (i : Int) old) ∧ h.IsTupleIter it a i ∧ e ≠ it
section
variable {X : Cx} {pins : List (Addr × Obj)} {σ : L2.St} {H : Hp} {s : Shared} {a e it : Addr} {xs : List V}
/-- the library's walk, at a state that the layer knows -/
theorem en_walk (hc : X.calm = true) (I : Inv X pins σ H s) (hf : ∀ b ∈ [e, it], FpOk X pins H b) (hne : e ≠ it) (hq : H a = some (.tup xs)) :
    ∃ its : List Value, Vals xs its ∧ s.heap.IsTuple a its.toArray ∧ WalksT X.prog X.w X.A e (e :: [it, a]) [e, it] its.toArray.size (fun i vals => ∃ t x, its.toArray[i]? = some x ∧ vals = #[.int i t, x])
      (fun i h => (∃ old, IsEnum h e it i old) ∧ (h.IsTupleIter it a i ∧ h.IsTuple a its.toArray)) (fun i T h => (∃ x, IsEnumOut h e it ((i : Int) + 1) x T) ∧ (h.IsTupleIter it a (i + 1) ∧ h.IsTuple a its.toArray) ∧ T ≠ e ∧ T ≠ it) := by
  obtain ⟨its, rv, p, _⟩ := I.tuple (SqT.of hq)
  have un : ∀ b ∈ [e, it], b ≠ a := fun b hb z => by
    have n := (hf b hb).1
    rw [z, hq] at n
    cases n
  refine ⟨its, rv, p, WalksT.enumerateD (Draws.tuple (A := X.A.in1) (I.ok.hd hc) it a (Ne.symm (un it (by simp))) its.toArray) e hne ?_ (by simp)⟩
  intro z
  rcases List.mem_cons.mp z with z | z
  · exact hne z
  · exact un e (by simp) (List.mem_singleton.mp z)
end
theorem en_turn {P : Program} {w : World} {K : PySem.W.Frag} {elts : List Expr} {kk : Nat} {tpos : Pos} (a e it : Addr) : Turn P w K (.Tuple elts kk tpos) (ItEn a) [e, it] e (enAt a e it) := by
  refine ⟨by simp, fun i h st b hb => ?_, fun i h h' st k => ⟨?_, ?_, st.2.2⟩, ?_, ?_, fun A i s Q E st q => ?_⟩
  · rcases st with ⟨⟨old, en⟩, ⟨ob, there, _, dt⟩, _⟩
    rcases List.mem_cons.mp hb with z | z
    · subst z
      exact ⟨_, en, fun v q => by cases q⟩
    · rw [List.mem_singleton.mp z]
      exact ⟨ob, there, fun v q => by rw [dt] at q; cases q⟩
  · exact st.1.imp fun old en => k e (by simp) _ en
  · exact st.2.1.at fun ob z => k it (by simp) ob z
  · intro X eP eW eK hc i pins s σ H E I hf st go
    subst eP eW eK
    obtain ⟨xs, x, hq, hx⟩ := go
    obtain ⟨its, rv, isT, W⟩ := en_walk hc I hf st.2.2 hq
    obtain ⟨u, hu, ru⟩ := rv.get hx
    have lt : i < its.toArray.size := by simpa using (List.getElem?_eq_some_iff.mp hu).1
    refine W.item i s _ E lt ⟨st.1, st.2.1, isT⟩ fun T vals h1 tk pt big hT mid keep1 => ⟨_, rfl, ?_⟩
    obtain ⟨t, y, hy, rfl⟩ := pt
    obtain rfl : y = u := by
      have hu' : its.toArray[i]? = some u := by simpa using hu
      exact Option.some.inj (hy.symm.trans hu')
    refine W.go elts kk tpos i T { s with heap := h1, toks := tk } _ E mid fun h2 st2 keep2 => ?_
    have nT : T ∉ [e, it] := W.apart i T h1 mid
    have hT2 : h2.IsTuple T #[.int (i : Nat) t, y] := hT.at fun ob z => keep2 T ob nT z
    have J : Inv X pins σ (upd H T (.tup [.int (i : Nat), x])) { s with heap := h2, toks := tk } :=
      I.turnedNew (ch := [e, it]) (fun b ob hb z => keep2 b ob hb (keep1 b ob hb z)) hf big ⟨by show 2 ≤ sizeLine; decide, [.int i t, y], .cons ⟨_, rfl⟩ (.cons ru .nil), hT2⟩
    refine ⟨.ref T, _, J, rfl, ⟨T, x, rfl, I.hok.fresh big, rfl, fun ys hy => by rw [hq] at hy; cases hy; exact hx⟩, ⟨st2.1, st2.2.1, st.2.2⟩, fun b hb => ?_⟩
    have nb : b ≠ T := fun z => nT (by rw [← z]; exact hb)
    rw [upd_ne nb]
    exact (hf b hb).1
  · intro X eP eW eK hc i pins s σ H E I hf st stop
    subst eP eW eK
    obtain ⟨xs, hq, hl⟩ := stop
    obtain ⟨its, rv, isT, W⟩ := en_walk hc I hf st.2.2 hq
    have ei : its.toArray.size = i := by
      rw [← hl, rv.length]
      simp
    refine W.done s _ E ?_ fun h1 tk keep => ⟨rfl, ?_⟩
    · rw [ei]
      exact ⟨st.1, st.2.1, isT⟩
    · exact I.turnedL (ch := [e, it]) keep hf
  · exact wpAny_pyIter_enum st.1.choose_spec q
def iEn (ta : TA) : TI := fun σ H R => ta σ H fun vs H1 => ∃ (a : Addr) (xs : List V), vs = [.ref a] ∧ H1 a = some (.tup xs) ∧ R (ItEn a) H1
/-- for .., .. in enumerate(a tuple) -/
theorem pi_en {X : Cx} {e : Expr} {ta : TA} {p pos tpos : Pos} {elts : List Expr} {kk : Nat} (hg : Gl X "enumerate") (hm : X.mg "enumerate" = none) (ha : PA X [e] ta) (hs : starEach [e] X.env = [(false, eval e X.env)] := by rfl) :
    PI X (.Tuple elts kk tpos) (.Call (.Name "enumerate" p) [e] [] pos) (iEn ta) := by
  constructor
  intro pins s σ H R I h
  refine Call_ (ld_blt I hg hm boot_enumerate (PyProof.Rows.callWith_type1 (thn (ha.run pos pins s σ H _ I h) ?_) hs rfl))
  rintro us s1 ⟨vs, H1, I1, r, a, xs, rfl, hq, q⟩
  match us, r with
  | [u], .cons ru .nil =>
    obtain rfl : u = Value.ref a := ru
    obtain ⟨its, rv, isT, _⟩ := I1.tuple (SqT.of hq)
    refine call_en isT fun h1 en ti keep => wpAny_pyIter_enum en ?_
    refine ⟨_, [s1.heap.objs.size + 1, s1.heap.objs.size], _, _, H1, rfl, I1.kept (t' := s1.toks) keep, en_turn a _ _, ⟨⟨.none, en⟩, ti, Nat.succ_ne_self _⟩, fun b hb => ?_, q⟩
    have big : s1.heap.objs.size ≤ b := by
      rcases List.mem_cons.mp hb with z | z
      · rw [z]; exact Nat.le_succ _
      · rw [List.mem_singleton.mp z]; exact Nat.le_refl _
    exact I1.fpOk big (I1.hok.fresh big)
/-- the loop by an invariant of its own -/
theorem for_en {a : Addr} {xs : List V} {g : TG} {tb : TS} {D : Ends} {σ : L2.St} {H : Hp} (Pv : Nat → L2.St → Hp → Prop) (h0 : Pv 0 σ H) (hl : ∀ i σ H, Pv i σ H → H a = some (.tup xs))
    (hs : ∀ (i : Nat) x σ H p, xs[i]? = some x → Pv i σ H → H p = Option.none → g (.ref p) σ (upd H p (.tup [.int (i : Nat), x])) fun σ2 H2 => tb { D with nx := Pv (i + 1), ct := Pv (i + 1), bk := D.nx } σ2 H2) (hd : ∀ σ H, Pv xs.length σ H → D.nx σ H) :
    ∃ W : Nat → Nat → L2.St → Hp → Prop, (∃ m, W 0 m σ H) ∧ ∀ i m σ H, W i m σ H → ((ItEn a).stop i H ∧ D.nx σ H) ∨ ((ItEn a).go i H ∧ ∃ N : L2.St → Hp → Prop, (∀ σ' H', N σ' H' → ∃ m', m' < m ∧ W (i + 1) m' σ' H') ∧ ∀ x H', (ItEn a).yld i H x H' → g x σ H' fun σ2 H2 => tb { D with nx := N, ct := N, bk := D.nx } σ2 H2) := by
  refine ⟨fun i m σ H => i + m = xs.length ∧ Pv i σ H, ⟨_, Nat.zero_add _, h0⟩, ?_⟩
  intro i m σ H ⟨em, p⟩
  have q := hl i σ H p
  cases m with
  | zero =>
    have ei : i = xs.length := em
    rw [ei] at p ⊢
    exact .inl ⟨⟨xs, q, rfl⟩, hd σ H p⟩
  | succ m =>
    have lt : i < xs.length := by omega
    have hx : xs[i]? = some xs[i] := List.getElem?_eq_getElem lt
    refine .inr ⟨⟨xs, _, q, hx⟩, Pv (i + 1), fun σ' H' p' => ⟨m, Nat.lt_succ_self m, by omega, p'⟩, ?_⟩
    rintro y H' ⟨t, x, rfl, nt, rfl, hy⟩
    obtain rfl : x = xs[i] := Option.some.inj ((hy xs q).symm.trans hx)
    exact hs i _ σ H t hx p nt
end K9
set_option Elab.async false
set_option linter.all false
set_option maxRecDepth 100000
set_option maxHeartbeats 4000000
/-! Web's making, which may raise BadWeb. -/
namespace K9
open PySem L2
abbrev sBad : Stmt := inClass (top 9) 0
abbrev sWebI : Stmt := inClass (top 14) 0
/-! ### a new instance whose __init__ may raise, what is raised being wished for at the caller's slots -/
section
open PySem.Spec PyProof.Rows
variable {X : Cx} {CX : CXT} {k : Nat} {f C : Addr} {fd : FuncData} {ps : List Str} {sp : Sp} {E : L2.St → XK} {x : Str} {p pos : Pos} {e : Expr} {es : List Expr} {t : TA}
def tMakeS (C : Addr) (sp : Sp) (E : L2.St → XK) (t : TA) : TE := fun σ H Q => t σ H fun vs H1 => ∀ (o d : Addr), H1 o = none → H1 d = none → d ≠ o → sp (.ref o :: vs) (upd (upd H1 d (.own o)) o (.ins C d [])) (fun v H2 => v = .non ∧ Q (.ref o) H2) (E σ)
theorem pe_makeS (M : Mk X.K C f) (F : FnOk X.prog X.w X.K X.mg X.base CX k f fd ps sp) (hr : Room (k + 1) X.A) (hg : Gl X x) (hm : X.mg x = some (.ref C)) (hb : Binds X.K fd ps []) (hx : ∀ σ, PassesAt CX X σ (E σ))
    (ha : PA X (e :: es) t) (hdb : (x == ("__debug__" : Str)) = false := by decide) (he : starEach (e :: es) X.env = (false, eval e X.env) :: starEach es X.env := by rfl) (hpl : (backTo pos (starEach es X.env)).any (·.1) = false := by rfl) :
    PE X (.Call (.Name x p) (e :: es) [] pos) (tMakeS C sp E t) := by
  constructor
  intro pins s σ H Q I h
  refine wpAny_Call_Name_kw (ld_glob I hg hm ?_ hdb)
  refine PySem.W.callWith_K (h₀ := X.base) I.ok.mod.kin M.kp (thn (ha.run pos pins s σ H _ I h) ?_) he hpl
  rintro us s1 ⟨vs, H1, I1, r, q⟩
  refine ⟨I1.kIn, ?_⟩
  let o := s1.heap.objs.size + 1
  have q' := q o s1.heap.objs.size (I1.hok.fresh (Nat.le_succ _)) (I1.hok.fresh (Nat.le_refl _)) (Nat.ne_of_lt (Nat.lt_succ_self _))
  have J := Inv.made (C := C) I1
  have rr : Vals (V.ref o :: vs) (Value.ref o :: us) := .cons rfl r
  have len : (Value.ref o :: us).length = ps.length := rr.length ▸ F.len _ _ _ _ q'
  have bind := hb _ (Value.ref o :: us) J.kIn (by rw [List.append_nil]; exact len)
  rw [List.append_nil] at bind
  refine wpAny_call (make_map (f := f) I1.kIn M.makes M.init (beq_iff_eq.mp M.fn) (codeAny_mono (F.run _ X.stack _ _ ⟨Value.ref o :: us, []⟩ _ _ _ (E σ) (hr.make C us []) (J.env0.make C us []) bind rr q') ?_))
  intro out s2 z
  match out, z with
  | .error er, z => exact hx σ pins _ _ er s2 J z
  | .ok (.ret u), z =>
    obtain ⟨v, H2, J2, rv, ev, qq⟩ := J.after z
    subst ev
    exact ⟨rv, .ref o, H2, J2, rfl, qq⟩
  | .ok .next, z => exact z.elim
  | .ok .brk, z => exact z.elim
  | .ok .cont, z => exact z.elim
end
/-! ### BadWeb -/
structure BadC (K : PySem.W.Frag) (mg : Str → Option Value) (C fI : Addr) : Prop where
  ex : OexC K C
  iC : PySem.W.findIn K (.ref C) "__init__" = some (some (.ref fI))
  tI : PySem.W.typeIn K (.ref fI) = some (.type "function")
  gC : mg "BadWeb" = some (.ref C)
  noP : PySem.W.findIn K (.ref C) "part" = some none
def spBad (C : Addr) : Sp := fun vs H Q _ => ∃ (a : Addr) (v : V), vs = [.ref a, v] ∧ H a = some (exo a C none) ∧ ∀ d, H d = none → d ≠ a → Q .non (upd (upd H d (exd d [("part", v)])) a (exo a C (some d)))
section
variable {P : Program} {w : World} {K : PySem.W.Frag} {mg : Str → Option Value} {base : Heap}
theorem scBad : FnScope ["self", "part"] ["self", "part"] (defScope sBad) := ⟨rfl, rfl, rfl, by decide +kernel, rfl, by decide +kernel, by decide +kernel⟩
theorem ok_bad {f C : Addr} {fd : FuncData} (F : L2.Fun K "__init__" "BadWeb.__init__" sBad f fd) (B : BadC K mg C f) : FnOk P w K mg base CX0 1 f fd ["self", "part"] (spBad C) := by
  refine F.ok scBad (fun vs H Q E h => ?_) (fun cdv A outer s H vs Q E hr h => ?_)
  · obtain ⟨a, v, rfl, _⟩ := h
    rfl
  · obtain ⟨a, v, rfl, ha, k⟩ := h
    exact ⟨_, pss_one (ps_ost (pv 0) (pv 1)), _, rfl, _, rfl, a, C, rfl, B.ex, B.noP, .inl ⟨ha, fun d nd ne => k d nd ne⟩⟩
/-- what is left behind a raise BadWeb(v) -/
theorem bad_end {H : Hp} {C a d : Addr} {v : V} (na : H a = none) (nd : (upd H a (exo a C none)) d = none) (ne : d ≠ a) :
    let H2 := upd (upd (upd H a (exo a C none)) d (exd d [("part", v)])) a (exo a C (some d))
    H2 a = some (exo a C (some d)) ∧ H2 d = some (exd d [("part", v)]) ∧ H d = none ∧ Ext H (upd (del H2 a) d (.xd [("part", v)])) := by
  have nd0 : H d = none := by rw [upd_ne ne] at nd; exact nd
  refine ⟨upd_same, by rw [upd_ne ne, upd_same], nd0, fun b o e => ?_⟩
  have h1 := ne_of_none e na
  have h2 := ne_of_none e nd0
  rw [upd_ne h2, del_ne h1, upd_ne h1, upd_ne h2, upd_ne h1]
  exact e
/-! ### Web.__init__ -/
/-- a Web's attributes, in the order in which they are stored -/
def wf (m : Int) (y : V) : List (Str × V) := [("many", V.int m), ("arrows", y)]
def okMany (x : V) : Prop := ∃ m : Int, x = .int m ∧ 1 ≤ m ∧ m ≤ 8
def BadPart (H : Hp) (x y v : V) : Prop := (¬ okMany x ∧ v = .str "many") ∨ ∃ m : Int, x = .int m ∧ 1 ≤ m ∧ m ≤ 8 ∧
  ((v = .str "arrows" ∧ ¬ ∃ b xs, y = .ref b ∧ H b = some (.tup xs) ∧ xs.length ≤ 12) ∨
    ∃ (b : Addr) (xs : List V) (k : Nat) (z : V), y = .ref b ∧ H b = some (.tup xs) ∧ xs.length ≤ 12 ∧ v = .int (k : Int) ∧ xs[k]? = some z ∧ ¬ isArr H m z ∧ ∀ i u, i < k → xs[i]? = some u → isArr H m u)
def spWebI (K : PySem.W.Frag) (CW CB : Addr) : Sp := fun vs H Q E => ∃ (p dx : Addr) (x y : V), vs = [.ref p, x, y] ∧ H p = some (.ins CW dx []) ∧ Th K H 0 x ∧ Th K H 2 y ∧
  (∀ (m : Int) (b : Addr) (xs : List V) (H' : Hp), x = .int m → 1 ≤ m → m ≤ 8 → y = .ref b → H b = some (.tup xs) → xs.length ≤ 12 → (∀ z ∈ xs, isArr H m z) → H' p = some (.ins CW dx (wf m y)) → (∀ c o, c ≠ p → H c = some o → H' c = some o) → Q .non H') ∧
  (∀ (v : V) (d : Addr) (H' : Hp), BadPart H x y v → H d = none → H' d = some (.xd [("part", v)]) → Ext H H' → E (.ref CB) (some d) H')
structure WebC (K : PySem.W.Frag) (mg : Str → Option Value) (C : Addr) : Prop where
  cl : Cls K C
  nM : NoAttr K C "many"
  nA : NoAttr K C "arrows"
  mgC : mg "Web" = some (.ref C)
  mp : ∃ t, mg "MOST_PLACES" = some (.int 8 t)
  ma : ∃ t, mg "MOST_ARROWS" = some (.int 12 t)
theorem isArr.ext {H H' : Hp} {m : Int} {x : V} (e : Ext H H') (h : isArr H m x) : isArr H' m x := by
  obtain ⟨a, p, q, ex, ha, r⟩ := h
  exact ⟨a, p, q, ex, e _ _ ha, r⟩
theorem scWebI : FnScope ["self", "many", "arrows", "at", "arrow"] ["self", "many", "arrows"] (defScope sWebI) := ⟨rfl, rfl, rfl, by decide +kernel, rfl, by decide +kernel, by decide +kernel⟩
theorem ok_webI {f fB CW CB : Addr} {fd fdB : FuncData} (F : L2.Fun K "__init__" "Web.__init__" sWebI f fd) (T : Gb mg) (W : WebC K mg CW) (B : BadC K mg CB fB) (FB : FnOk P w K mg base CX0 1 fB fdB ["self", "part"] (spBad CB)) (bB : Binds K fdB ["self", "part"] [])
    (cN : Cal P w K mg base 2 "is_number" (spNumber K) []) (cA : Cal P w K mg base 3 "is_arrow" (spArrow K) []) : FnOk P w K mg base (L2.CX P w) 4 f fd ["self", "many", "arrows"] (spWebI K CW CB) := by
  obtain ⟨t8, h8⟩ := W.mp
  obtain ⟨t12, h12⟩ := W.ma
  refine F.okX scWebI (fun vs H Q E h => ?_) (fun cdv A outer s H vs Q E hr h => ?_)
  · obtain ⟨p, dx, x, y, rfl, _⟩ := h
    rfl
  · obtain ⟨p, dx, x, y, rfl, hp, tx, ty, kQ, kE⟩ := h
    have hr2 : Room 2 _ := hr.mono (by decide)
    refine ⟨_, C8.pss_cut (ps_if (PW.pt (pw_or (pt_not (pt_val (C8.pe_c cN hr (by decide) (by rfl) (pa_cons (pe_glob (v := .int 8) rfl h8 ⟨_, rfl⟩) (pa_cons (pv 1) pa_nil))))) (pw_or1 (pt_cmpR op_eq (pv 1) pe_int (nomark _)))))
        (pss_one (ps_raise rfl (takes_of rfl rfl rfl rfl) (pmk_oex B.ex B.iC B.tI FB hr2 bB .nil pass0 (by rfl) B.gC (pa_cons pe_str pa_nil)))) pss_nil)
      (C8.pss_cut (ps_if (PW.pt (pw_or (pt_not (pt_val (pe_callB call_isi (by rfl) T.isi (by decide +kernel) (pa_cons (pv 2) (pa_cons (pe_bltn (v := .ty "tuple") (by rfl) T.tup (by decide +kernel) rfl) pa_nil)))))
          (pw_or1 (pt_cmpR op_gt (pe_callB call_len_seq (by rfl) T.len PySem.boot_len (pa_cons (pv 2) pa_nil)) (pe_glob (v := .int 12) rfl h12 ⟨_, rfl⟩) (nomark _)))))
        (pss_one (ps_raise rfl (takes_of rfl rfl rfl rfl) (pmk_oex B.ex B.iC B.tI FB hr2 bB .nil pass0 (by rfl) B.gC (pa_cons pe_str pa_nil)))) pss_nil)
      (pss_cons (ps_for (passes_of rfl) rfl (pi_en (by rfl) T.enum (pa_cons (pv 2) pa_nil)) (pg_tup rfl (pgs_cons (pg_name (i := 3) scWebI.nd rfl (Or.inl rfl)) (pgs_cons (pg_name (i := 4) scWebI.nd rfl (Or.inl rfl)) pgs_nil)))
        (pss_one (ps_if (pt_not (pt_val (C8.pe_c cA hr (by decide) (by rfl) (pa_cons (pv 1) (pa_cons (pv 4) pa_nil)))))
          (pss_one (ps_raise rfl (takes_of rfl rfl rfl rfl) (pmk_oex B.ex B.iC B.tI FB hr2 bB .nil pass0 (by rfl) B.gC (pa_cons (pv 3) pa_nil)))) pss_nil)))
      (pss_cons (ps_fld (pv 0) (pv 1) rfl) (pss_one (ps_fld (pv 0) (pv 2) rfl))))), ?_⟩
    -- the raise, told once
    have out : ∀ (H1 : Hp) (v : V), Ext H H1 → BadPart H x y v → ∀ a, H1 a = Option.none → spBad CB (.ref a :: ([v] ++ [])) (upd H1 a (exo a CB Option.none))
        (fun u H2 => u = .non ∧ ∃ (d : Addr) (fs : List (Str × V)), H2 a = some (exo a CB (some d)) ∧ H2 d = some (exd d fs) ∧ H1 d = Option.none ∧ E (.ref CB) (some d) (upd (del H2 a) d (.xd fs))) (fun _ _ _ => False) := by
      intro H1 v e bp a na
      refine ⟨a, v, rfl, upd_same, fun d nd ne => ⟨rfl, d, [(("part" : Str), v)], ?_⟩⟩
      obtain ⟨h1, h2, h3, h4⟩ := bad_end (v := v) na nd ne
      refine ⟨h1, h2, h3, kE v d _ bp ?_ upd_same (e.trans h4)⟩
      cases q : H d with
      | none => rfl
      | some o =>
        rw [e d o q] at h3
        cases h3
    refine ⟨fun σ' H' => σ' = [some (.ref p), some x, some y, Option.none, Option.none] ∧ H' = H ∧ okMany x, ?_, ?_⟩
    · refine ⟨_, rfl, 8, x, rfl, tx, _, rfl, ?_⟩
      cases hx : numV 8 x with
      | false =>
        refine iteT (iteT ⟨by decide, out H _ Ext.rfl' (.inl ⟨?_, rfl⟩)⟩)
        rintro ⟨m, rfl, h1, h2⟩
        rw [numV_true.mpr ⟨m, rfl, by omega, h2⟩] at hx
        cases hx
      | true =>
        obtain ⟨m, rfl, h1, h2⟩ := numV_true.mp hx
        refine iteF ⟨_, rfl, rfl, _, rfl, ?_⟩
        refine ite2 (fun z => ?_) (fun z => ?_)
        · have hm0 : V.int m = V.int 0 := of_decide_eq_true z
          refine ⟨by decide, out H _ Ext.rfl' (.inl ⟨?_, rfl⟩)⟩
          rintro ⟨m', e, h3, h4⟩
          cases e
          cases hm0
          omega
        · have hm0 : ¬ V.int m = V.int 0 := fun q => z (decide_eq_true q)
          refine ⟨rfl, rfl, m, rfl, ?_, h2⟩
          have : m ≠ 0 := fun q => hm0 (by rw [q])
          omega
    · rintro σ' H' ⟨rfl, rfl, m, rfl, hm1, hm8⟩
      have ty' := ty
      unfold Th at ty'
      obtain ⟨t, tyx, _, _, kt⟩ := ty'
      refine ⟨fun σ' H1 => σ' = [some (.ref p), some (.int m), some y, Option.none, Option.none] ∧ H1 = H' ∧ ∃ b xs, y = .ref b ∧ H' b = some (.tup xs) ∧ xs.length ≤ 12 ∧ ∀ z ∈ xs, Th K H' 1 z, ?_, ?_⟩
      · rcases kt with ⟨kt, nt⟩ | ⟨kt, b, xs, rfl, hb, it⟩
        · refine ⟨_, rfl, y, .ty "tuple", t, .type "tuple", _, rfl, .ty _, tyx, kt, _, rfl, ?_⟩
          refine iteT (iteT ⟨by decide, out H' _ Ext.rfl' (.inr ⟨m, rfl, hm1, hm8, .inl ⟨rfl, ?_⟩⟩)⟩)
          rintro ⟨b, xs, e, hb, _⟩
          obtain ⟨o, h1, h2⟩ := nt b e
          rw [hb] at h1
          cases h1
          exact absurd rfl (h2 xs)
        · refine ⟨_, rfl, _, .ty "tuple", t, .type "tuple", _, rfl, .ty _, tyx, kt, _, rfl, ?_⟩
          refine iteF ⟨_, rfl, b, xs, rfl, .inr (SqT.of hb), _, _, rfl, rfl, _, rfl, ?_⟩
          refine ite2 (fun z => ?_) (fun z => ?_)
          · have hl := of_decide_eq_true z
            refine ⟨by decide, out H' _ Ext.rfl' (.inr ⟨m, rfl, hm1, hm8, .inl ⟨rfl, ?_⟩⟩)⟩
            rintro ⟨b', xs', e, hb', hl'⟩
            cases e
            rw [hb] at hb'
            cases hb'
            omega
          · have hl : ¬ (12 : Int) < (xs.length : Int) := fun q => z (decide_eq_true q)
            exact ⟨rfl, rfl, b, xs, rfl, hb, by omega, it⟩
      · rintro σ' H1 ⟨rfl, rfl, b, xs, rfl, hb, hl, it⟩
        refine ⟨_, rfl, b, xs, rfl, hb, for_en (a := b) (xs := xs) (fun i σ' H2 => (∃ u v, σ' = [some (.ref p), some (.int m), some (.ref b), u, v]) ∧ Ext H1 H2 ∧ ∀ j z, j < i → xs[j]? = some z → isArr H1 m z)
          ⟨⟨_, _, rfl⟩, Ext.rfl', fun j z h => absurd h (Nat.not_lt_zero j)⟩ (fun i σ' H2 h => h.2.1 _ _ hb) ?_ ?_⟩
        · rintro i z σ' H2 q hz ⟨⟨u, v, rfl⟩, e2, arr⟩ nq
          have e3 : Ext H1 (upd H2 q (.tup [.int (i : Nat), z])) := e2.trans (Ext.upd nq)
          refine ⟨q, _, rfl, SqT.of upd_same, rfl, _, _, rfl, _, _, rfl, rfl, ?_⟩
          refine ⟨_, rfl, _, rfl, m, z, rfl, (it z (List.mem_of_getElem? hz)).ext e3, fun b' H3 hb' e4 => ⟨_, rfl, ?_⟩⟩
          have back : isArr (upd H2 q (.tup [.int (i : Nat), z])) m z → isArr H1 m z := by
            rintro ⟨c, p1, q1, rfl, hc, r⟩
            have tz := it _ (List.mem_of_getElem? hz)
            unfold Th at tz
            obtain ⟨_, _, _, _, tz⟩ := tz
            rcases tz with ⟨_, nz⟩ | ⟨_, c', ys, e, hc', _⟩
            · obtain ⟨o, h1, h2⟩ := nz c rfl
              rw [e3 _ _ h1] at hc
              cases hc
              exact absurd rfl (h2 _)
            · cases e
              have := (e3 _ _ hc').symm.trans hc
              cases this
              exact ⟨c, p1, q1, rfl, hc', r⟩
          cases b' with
          | true =>
            refine iteF ⟨⟨_, _, rfl⟩, e3.trans e4, fun j y hj hy => ?_⟩
            rcases Nat.lt_succ_iff_lt_or_eq.mp hj with hj | rfl
            · exact arr j y hj hy
            · rw [hz] at hy
              cases hy
              exact back (hb'.mp rfl)
          | false =>
            refine iteT ⟨_, rfl, (by show 1 ≤ 1000; decide), out H3 _ (e3.trans e4) (.inr ⟨m, rfl, hm1, hm8, .inr ⟨b, xs, i, z, rfl, hb, hl, rfl, hz, fun q => ?_, fun j u hj hu => arr j u hj hu⟩⟩)⟩
            have := hb'.mpr (q.ext e3)
            cases this
        · rintro σ' H2 ⟨⟨u, v, rfl⟩, e2, arr⟩
          refine ⟨_, rfl, _, rfl, p, CW, dx, [], rfl, e2 _ _ hp, W.cl, W.nM, (by show 0 < 1000; decide), _, rfl, _, rfl, p, CW, dx, _, rfl, upd_same, W.cl, W.nA, (by show 1 < 1000; decide), ?_⟩
          refine kQ m b xs _ rfl hm1 hm8 rfl hb hl (fun z hz => ?_) ?_ (fun c o nc e => ?_)
          · obtain ⟨j, hj⟩ := List.mem_iff_getElem?.mp hz
            exact arr j z (List.getElem?_eq_some_iff.mp hj).1 hj
          · rw [upd_same]
            rfl
          · rw [upd_ne nc, upd_ne nc]
            exact e2 _ _ e
end
end K9
set_option Elab.async false
set_option linter.all false
set_option maxRecDepth 100000
set_option maxHeartbeats 4000000
/-! Tuples of tuples of ints as data, Web.__eq__, == of webs. -/
namespace K9
open PySem L2
abbrev sWebE : Stmt := inClass (top 14) 1
/-! ### tuples of tuples of ints -/
def dT (ll : List (List Int)) : PyData := .tuple (ll.map fun l => .tuple (l.map .int))
theorem eqv_ints : ∀ l k : List Int, PyData.eqvAll (l.map .int) (k.map .int) = decide (l = k)
  | [], [] => by simp [PyData.eqvAll]
  | [], y :: k => by simp [PyData.eqvAll]
  | x :: l, [] => by simp [PyData.eqvAll]
  | x :: l, y :: k => by
    have ih := eqv_ints l k
    simp only [List.map_cons, PyData.eqvAll, PyData.eqv, ih]
    by_cases h : x = y <;> by_cases g : l = k <;> simp [h, g]
theorem eqv_lists : ∀ l k : List (List Int), PyData.eqvAll (l.map fun l => .tuple (l.map .int)) (k.map fun l => .tuple (l.map .int)) = decide (l = k)
  | [], [] => by simp [PyData.eqvAll]
  | [], y :: k => by simp [PyData.eqvAll]
  | x :: l, [] => by simp [PyData.eqvAll]
  | x :: l, y :: k => by
    have ih := eqv_lists l k
    simp only [List.map_cons, PyData.eqvAll, PyData.eqv, ih, eqv_ints]
    by_cases h : x = y <;> by_cases g : l = k <;> simp [h, g]
theorem eqv_dT (l k : List (List Int)) : PyData.eqv (dT l) (dT k) = decide (l = k) := by
  show PyData.eqvAll _ _ = _
  exact eqv_lists l k
theorem lay_ints : ∀ l : List Int, PyData.canLayAll0 (l.map .int) = true ∧ PyData.depthAll (l.map .int) = 0
  | [] => ⟨by simp [PyData.canLayAll0], by simp [PyData.depthAll]⟩
  | x :: l => by
    obtain ⟨h, g⟩ := lay_ints l
    exact ⟨by simp [PyData.canLayAll0, PyData.canLay0, h], by simp [PyData.depthAll, PyData.depth, g]⟩
theorem lay_lists : ∀ l : List (List Int), PyData.canLayAll0 (l.map fun l => .tuple (l.map .int)) = true ∧ PyData.depthAll (l.map fun l => .tuple (l.map .int)) ≤ 1
  | [] => ⟨by simp [PyData.canLayAll0], by simp [PyData.depthAll]⟩
  | x :: l => by
    obtain ⟨h, g⟩ := lay_lists l
    obtain ⟨h1, g1⟩ := lay_ints x
    refine ⟨by simp [PyData.canLayAll0, PyData.canLay0, h, h1], ?_⟩
    simp only [List.map_cons, PyData.depthAll, PyData.depth, g1]
    omega
theorem shaped_dT (l : List (List Int)) : SeqAt.shaped (dT l) = true := by
  obtain ⟨h, g⟩ := lay_lists l
  refine Bool.and_eq_true_iff.mpr ⟨by unfold dT; rw [PyData.canLay0]; exact h, decide_eq_true ?_⟩
  unfold dT
  rw [PyData.depth]
  exact Nat.le_trans (Nat.succ_le_succ g) (by decide)
/-- a tuple of tuples of ints stands at b -/
def TT (H : Hp) (b : Addr) (ll : List (List Int)) : Prop := ∃ as : List Addr, H b = some (.tup (as.map V.ref)) ∧ Paired (fun a l => H a = some (.tup (l.map V.int))) as ll
theorem Paired.imp' {α β : Type} {F G : α → β → Prop} (h : ∀ a b, F a b → G a b) : ∀ {l : List α} {k : List β}, Paired F l k → Paired G l k
  | _, _, .nil => .nil
  | _, _, .cons a r => .cons (h _ _ a) (Paired.imp' h r)
theorem TT.ext {H H' : Hp} {b : Addr} {ll : List (List Int)} (e : Ext H H') (h : TT H b ll) : TT H' b ll := by
  obtain ⟨as, h1, h2⟩ := h
  exact ⟨as, e _ _ h1, Paired.imp' (fun a l h => e _ _ h) h2⟩
theorem dp_ints {K : PySem.W.Frag} {H : Hp} : ∀ l : List Int, DpAll K H (l.map V.int) (l.map .int)
  | [] => .nil
  | x :: l => .cons (.int x) (dp_ints l)
theorem dp_lists {K : PySem.W.Frag} {H : Hp} : ∀ {as : List Addr} {ll : List (List Int)}, Paired (fun a l => H a = some (.tup (l.map V.int))) as ll → DpAll K H (as.map V.ref) (ll.map fun l => .tuple (l.map .int))
  | _, _, .nil => .nil
  | _, _, .cons h r => .cons (.tup (SqT.of h) (dp_ints _)) (dp_lists r)
theorem TT.dp {K : PySem.W.Frag} {H : Hp} {b : Addr} {ll : List (List Int)} (h : TT H b ll) : Dp K H (.ref b) (dT ll) := by
  obtain ⟨as, h1, h2⟩ := h
  exact .tup (SqT.of h1) (dp_lists h2)
/-! ### == by an own __eq__ -/
section
open PySem.Spec PyProof.Rows
variable {X : Cx} {CX : CXT} {k : Nat} {f C : Addr} {fd : FuncData} {ps : List Str} {sp : Sp}
def rOwn (K : PySem.W.Frag) (C : Addr) (sp : Sp) : R2 := fun x y H Q => ∃ (a dx : Addr) (fs : List (Str × V)) (t : Value), x = .ref a ∧ H a = some (.ins C dx fs) ∧ TyX K H y t ∧ PySem.W.notFirst K C t = true ∧ sp [x, y] H (fun v H' => (∃ b, v = .bl b) ∧ Q v H') E0
theorem op_own (F : FnOk X.prog X.w X.K X.mg X.base CX0 k f fd ps sp) (hs : PySem.W.findIn X.K (.ref C) "__eq__" = some (some (.ref f))) (hf : PySem.W.isFn X.K (.ref f) = true) (hb : Binds X.K fd ps []) (hr : Room k X.A) : OpR X (compareOp .Eq) (rOwn X.K C sp) := by
  rintro pins s σ H x y v u Q I rx ry ⟨a, dx, fs, t, rfl, ha, ty, nf, q⟩
  obtain rfl : v = Value.ref a := rx
  obtain ⟨mA, J, _⟩ := ins_get I.hok ha
  obtain ⟨od, J, _⟩ := J.look
  obtain ⟨G, Z, g, _⟩ := kit_of I ry ty
  obtain ⟨m, fr⟩ := I.fr
  show wpAny (model X.prog X.w) X.A (richCompare .Eq (.ref a) u) (EP X pins σ Q) X.xe s
  refine PySem.W.cmp_K (op := .Eq) (tb := t) hr.units0 fr I.ok.mod.kin J (Z.ty _ _ I.kIn g) nf hs hf ?_
  refine wpAny_mono (run_fn (vs := [V.ref a, y]) F hr hb .nil pass0 I (.cons rfl (.cons ry .nil)) (show sp ([V.ref a, y] ++ []) H _ E0 from q)) ?_ fun _ _ x => x
  rintro w s' ⟨z, H', I', rz, ⟨b, rfl⟩, qz⟩
  cases rz
  exact ⟨.bl b, H', I', rfl, qz⟩
end
/-! ### Web.__eq__ -/
/-- a Web stands at p, of so many places, with the arrows at b -/
def WebAt (C : Addr) (H : Hp) (p : Addr) (m : Int) (b : Addr) : Prop := ∃ dx, H p = some (.ins C dx (wf m (.ref b)))
/-- what isinstance asks of a class for its instances -/
structure IsC (K : PySem.W.Frag) (C : Addr) : Prop where
  cl : Cls K C
  ha : PySem.W.findIn K (.ref C) "__class__" = some (some (.builtin "object.__class__"))
  hn : PySem.W.specialIn K (.builtin "object.__class__") "__get__" = some (some (.builtin "getset_descriptor.__get__"))
  ht : PySem.W.takesIn K (.builtin "object.__class__") = some true
  hm : PySem.W.mroIn K C (.type "object") = some true
theorem IsC.ty {K : PySem.W.Frag} {C : Addr} (I : IsC K C) {H : Hp} {p dx : Addr} {fs : List (Str × V)} (h : H p = some (.ins C dx fs)) : TyX K H (.ref p) (.ref C) := .base (.ins h I.cl I.ha I.hn I.ht I.hm)
theorem kit_same {K : PySem.W.Frag} {C : Addr} : PySem.W.kitOne K (.ref C) (.ref C) = some true := by
  unfold PySem.W.kitOne
  rw [if_pos (beq_self_eq_true _)]
def spEqW (K : PySem.W.Frag) (C : Addr) : Sp := fun vs H Q _ => ∃ (p : Addr) (z : V) (m : Int) (b : Addr) (ll : List (List Int)), vs = [.ref p, z] ∧ WebAt C H p m b ∧ TT H b ll ∧
  ((∃ (p' : Addr) (m' : Int) (b' : Addr) (kk : List (List Int)), z = .ref p' ∧ WebAt C H p' m' b' ∧ TT H b' kk ∧ Q (.bl (decide (m = m') && decide (ll = kk))) H) ∨ ∃ t, TyX K H z t ∧ PySem.W.kitOne K t (.ref C) = some false ∧ Q (.bl false) H)
theorem wf_many (m : Int) (y : V) : (wf m y).lookup ("many" : Str) = some (.int m) := by rfl
theorem wf_arrows (m : Int) (y : V) : (wf m y).lookup ("arrows" : Str) = some y := by rfl
section
variable {P : Program} {w : World} {K : PySem.W.Frag} {mg : Str → Option Value} {base : Heap}
theorem scWebE : FnScope ["self", "other"] ["self", "other"] (defScope sWebE) := ⟨rfl, rfl, rfl, by decide +kernel, rfl, by decide +kernel, by decide +kernel⟩
theorem ok_webE {f CW : Addr} {fd : FuncData} (F : L2.Fun K "__eq__" "Web.__eq__" sWebE f fd) (T : Gb mg) (W : WebC K mg CW) (IW : IsC K CW) : FnOk P w K mg base CX0 1 f fd ["self", "other"] (spEqW K CW) := by
  refine F.ok scWebE (fun vs H Q E h => ?_) (fun cdv A outer s H vs Q E hr h => ?_)
  · obtain ⟨p, z, m, b, ll, rfl, _⟩ := h
    rfl
  · obtain ⟨p, z, m, b, ll, rfl, ⟨dx, hp⟩, tt, k⟩ := h
    refine ⟨_, pss_one (ps_ret (pe_and (pe_callB call_isi (by rfl) T.isi (by decide +kernel) (pa_cons (pv 1) (pa_cons (pe_glob (v := .ref CW) rfl W.mgC rfl) pa_nil)))
      (pe_and (pe_cmpR op_eq (pe_fld (pv 0) rfl) (pe_fld (pv 1) rfl) (nomark _)) (pe_one (pe_cmpR (op_eqD hr.units) (pe_fld (pv 0) rfl) (pe_fld (pv 1) rfl) (nomark _)))))), ?_⟩
    rcases k with ⟨p', m', b', kk, rfl, ⟨dx', hp'⟩, tt', q⟩ | ⟨t, ty, kt, q⟩
    · refine ⟨_, rfl, _, .ref CW, .ref CW, .ref CW, _, rfl, .own CW, IW.ty hp', kit_same, _, rfl, ?_⟩
      refine iteT ⟨_, rfl, p, CW, dx, _, _, rfl, hp, W.cl, W.nM, wf_many _ _, _, rfl, p', CW, dx', _, _, rfl, hp', W.cl, W.nM, wf_many _ _, rfl, _, rfl, ?_⟩
      by_cases hm : m = m'
      · subst hm
        rw [decide_eq_true (rfl : V.int m = V.int m)]
        refine iteT ⟨_, rfl, p, CW, dx, _, _, rfl, hp, W.cl, W.nA, wf_arrows _ _, _, rfl, p', CW, dx', _, _, rfl, hp', W.cl, W.nA, wf_arrows _ _, _, _, tt.dp, tt'.dp, shaped_dT _, shaped_dT _, ?_⟩
        rw [eqv_dT]
        rw [decide_eq_true (rfl : m = m), Bool.true_and] at q
        exact q
      · have h1 : decide (V.int m = V.int m') = false := decide_eq_false fun z => hm (by injection z)
        rw [h1]
        rw [decide_eq_false hm, Bool.false_and] at q
        exact iteF q
    · refine ⟨_, rfl, z, .ref CW, t, .ref CW, _, rfl, .own CW, ty, kt, _, rfl, ?_⟩
      exact iteF q
end
end K9
set_option Elab.async false
set_option linter.all false
set_option maxRecDepth 100000
set_option maxHeartbeats 4000000
/-! A Web made, or what BadWeb tells: the law's own try. -/
namespace K9
open PySem L2
abbrev sMade : Stmt := top 27
/-! ### isinstance of the exception that a suite holds, when it has a dict -/
section
open PySem.Spec PyProof.Rows
structure ExIs (K : PySem.W.Frag) (C : Addr) : Prop where
  cls : (PySem.W.clsIn K C).isSome = true
  ga : PySem.W.findIn K (.ref C) "__getattribute__" = some (some (.builtin "BaseException.__getattribute__"))
  gt : PySem.W.findIn K (.ref C) "__getattr__" = some none
  sb : PySem.W.subIn K (.ref C) (.type "BaseException") = some true
  ha : PySem.W.findIn K (.ref C) "__class__" = some (some (.builtin "object.__class__"))
  hn : PySem.W.specialIn K (.builtin "object.__class__") "__get__" = some (some (.builtin "getset_descriptor.__get__"))
  ht : PySem.W.takesIn K (.builtin "object.__class__") = some true
  hm : PySem.W.mroIn K C (.type "object") = some true
def rIsX (K : PySem.W.Frag) (C a : Addr) (cls : Value) (d : Option Addr) : List V → Hp → VK → Prop := fun xs H Q => ∃ (c : V) (cv : Value) (b : Bool) (dd : Addr) (fs : List (Str × V)), xs = [.ref a, c] ∧ ClsV c cv ∧ cls = .ref C ∧ d = some dd ∧ H dd = some (.xd fs) ∧ PySem.W.kitOne K (.ref C) cv = some b ∧ Q (.bl b) H
def rIsXT (K : PySem.W.Frag) (C a : Addr) (cls : Value) (d : Option Addr) : List V → Hp → VK → Prop := fun xs H Q => ∃ (tp : Addr) (cs : List V) (us : List Value) (b : Bool) (dd : Addr) (fs : List (Str × V)), xs = [.ref a, .ref tp] ∧ H tp = some (.tup cs) ∧ Paired ClsV cs us ∧ cls = .ref C ∧ d = some dd ∧ H dd = some (.xd fs) ∧ PySem.W.kitAny K (.ref C) us = some b ∧ Q (.bl b) H
variable {X : Cx} {a C : Addr} {oe : Obj} {cls : Value} {d : Option Addr} {pn : List (Addr × Obj)}
theorem held_at {pins : List (Addr × Obj)} {σ : L2.St} {H : Hp} {s : Shared} {dd : Addr} {fs : List (Str × V)} (hz : Zc (.ref C) (some dd) oe) (hf : ∃ vs, oe.data = .fields vs) (I : Inv (X.suite a ((a, oe) :: pn)) pins σ H s) (h : H dd = some (.xd fs)) :
    ∃ od, PySem.W.InstAt s.heap a oe C (some od) := by
  obtain ⟨there, _⟩ := I.pin (a, oe) (List.mem_append_left _ List.mem_cons_self)
  obtain ⟨vs, dt⟩ := hf
  obtain ⟨mA, ns, _⟩ := (show ObjOk X.prog X.w H s.heap dd (.xd fs) from I.hok dd _ h)
  obtain ⟨od, ho, _⟩ := lookIn_ns ns
  exact ⟨od, there, hz.1, by unfold PySem.W.notCls; rw [dt] <;> rfl, by rw [hz.2]; exact ho⟩
theorem call_isX (T : ExIs X.K C) (hz : Zc cls d oe) (hf : ∃ vs, oe.data = .fields vs) : CallR (X.suite a ((a, oe) :: pn)) (.builtin "isinstance") (rIsX X.K C a cls d) := by
  rintro pins s σ H xs us Q I r ⟨c, cv, b, dd, fs, rfl, hc, rfl, rfl, hd, e, q⟩
  obtain ⟨u1, u2, rfl, r1, r2⟩ := vals2 r
  obtain rfl : u1 = Value.ref a := r1
  obtain rfl := hc.eq r2
  obtain ⟨od, J⟩ := held_at hz hf I hd
  exact PySem.W.kia_one (PySem.W.kitx_exc T.cls T.ga T.gt T.sb T.ha T.hn T.ht T.hm) I.kIn J e (fun z => nomatch z) fun tk => ⟨.bl b, H, I.tok tk, rfl, q⟩
theorem call_isXT (T : ExIs X.K C) (hz : Zc cls d oe) (hf : ∃ vs, oe.data = .fields vs) : CallR (X.suite a ((a, oe) :: pn)) (.builtin "isinstance") (rIsXT X.K C a cls d) := by
  rintro pins s σ H xs us Q I r ⟨tp, cs, ws, b, dd, fs, rfl, hT, hc, rfl, rfl, hd, e, q⟩
  obtain ⟨u1, u2, rfl, r1, r2⟩ := vals2 r
  obtain rfl : u1 = Value.ref a := r1
  obtain rfl : u2 = Value.ref tp := r2
  obtain ⟨od, J⟩ := held_at hz hf I hd
  obtain ⟨_, its, rv, ⟨oc, od', dt, sl⟩, h1, h2, n, h3⟩ := (show ObjOk X.prog X.w H s.heap tp (.tup cs) from I.hok tp _ hT)
  obtain rfl := ClsV.all hc rv
  simp only at h2 h3
  subst h2 h3
  exact PySem.W.kia_tup (PySem.W.kitx_exc T.cls T.ga T.gt T.sb T.ha T.hn T.ht T.hm) I.kIn J h1 e (fun z => nomatch z) fun tk => ⟨.bl b, H, I.tok tk, rfl, q⟩
end
/-! ### what a thing is not later it was not -/
theorem Th.tup_back {K : PySem.W.Frag} {H H1 : Hp} {n : Nat} {b : Addr} {xs : List V} (e : Ext H H1) (h : Th K H n (.ref b)) (h1 : H1 b = some (.tup xs)) : H b = some (.tup xs) := by
  unfold Th at h
  obtain ⟨t, _, _, _, h⟩ := h
  rcases h with ⟨_, h⟩ | ⟨_, b', ys, e', hb, _⟩
  · obtain ⟨o, ho, no⟩ := h b rfl
    rw [e _ _ ho] at h1
    cases h1
    exact absurd rfl (no xs)
  · cases e'
    have := (e _ _ hb).symm.trans h1
    cases this
    exact hb
theorem isArr.back {K : PySem.W.Frag} {H H1 : Hp} {n : Nat} {m : Int} {x : V} (e : Ext H H1) (h : Th K H n x) (h1 : isArr H1 m x) : isArr H m x := by
  obtain ⟨a, p, q, rfl, ha, r⟩ := h1
  exact ⟨a, p, q, rfl, h.tup_back e ha, r⟩
theorem Th.items {K : PySem.W.Frag} {H : Hp} {n : Nat} {b : Addr} {xs : List V} (h : Th K H (n + 1) (.ref b)) (hb : H b = some (.tup xs)) : ∀ z ∈ xs, Th K H n z := by
  unfold Th at h
  obtain ⟨t, _, _, _, h⟩ := h
  rcases h with ⟨_, h⟩ | ⟨_, b', ys, e', hb', it⟩
  · obtain ⟨o, ho, no⟩ := h b rfl
    rw [ho] at hb
    cases hb
    exact absurd rfl (no xs)
  · cases e'
    rw [hb] at hb'
    cases hb'
    exact it
theorem BadPart.back {K : PySem.W.Frag} {H H1 : Hp} {x y v : V} (e : Ext H H1) (h : Th K H 2 y) (b : BadPart H1 x y v) : BadPart H x y v := by
  rcases b with b | ⟨m, em, h1, h8, b⟩
  · exact .inl b
  · refine .inr ⟨m, em, h1, h8, ?_⟩
    rcases b with ⟨ev, b⟩ | ⟨c, xs, k, z, rfl, hc, hl, ev, hk, nz, az⟩
    · exact .inl ⟨ev, fun ⟨c, xs, ey, hc, hl⟩ => b ⟨c, xs, ey, e _ _ hc, hl⟩⟩
    · have hc' := h.tup_back e hc
      have it := h.items hc'
      refine .inr ⟨c, xs, k, z, rfl, hc', hl, ev, hk, fun q => nz (q.ext e), fun i u hi hu => (az i u hi hu).back e (it u (List.mem_of_getElem? hu))⟩
/-! ### _law_made -/
def spMade (K : PySem.W.Frag) (CW : Addr) : Sp := fun vs H Q _ => ∃ (x y : V), vs = [x, y] ∧ Th K H 0 x ∧ Th K H 2 y ∧
  (∀ (m : Int) (b : Addr) (xs : List V) (r p : Addr) (H' : Hp), x = .int m → 1 ≤ m → m ≤ 8 → y = .ref b → H b = some (.tup xs) → xs.length ≤ 12 → (∀ z ∈ xs, isArr H m z) → Ext H H' → H' r = some (.tup [.str "web", .ref p]) → WebAt CW H' p m b → Q (.ref r) H') ∧
  (∀ (v : V) (r : Addr) (H' : Hp), BadPart H x y v → Ext H H' → H' r = some (.tup [.str "bad", v]) → Q (.ref r) H')
/-- the classes of errors as the module names them -/
structure Errs (K : PySem.W.Frag) (mg : Str → Option Value) (CB CE CP CT : Addr) : Prop where
  gE : mg "WebError" = some (.ref CE)
  gP : mg "BadPicture" = some (.ref CP)
  gT : mg "BadTable" = some (.ref CT)
  is : ExIs K CB
  xf : XfC K CB
  te : PySem.W.exmOne K (.ref CB) (.ref CB) = some true
  kE : PySem.W.kitOne K (.ref CB) (.ref CE) = some true
  kV : PySem.W.kitOne K (.ref CB) (.type "ValueError") = some true
  kN : PySem.W.kitAny K (.ref CB) [.ref CP, .ref CT] = some false
section
variable {P : Program} {w : World} {K : PySem.W.Frag} {mg : Str → Option Value} {base : Heap}
theorem scMade : FnScope ["many", "arrows", "found", "e"] ["many", "arrows"] (defScope sMade) := ⟨rfl, rfl, rfl, by decide +kernel, rfl, by decide +kernel, by decide +kernel⟩
theorem ok_made {f fW fB CW CB CE CP CT : Addr} {fd fdW : FuncData} (F : L2.Fun K "_law_made" "_law_made" sMade f fd) (T : Gb mg) (W : WebC K mg CW) (B : BadC K mg CB fB) (R : Errs K mg CB CE CP CT) (M : Mk K CW fW)
    (FW : FnOk P w K mg base (L2.CX P w) 4 fW fdW ["self", "many", "arrows"] (spWebI K CW CB)) (bW : Binds K fdW ["self", "many", "arrows"] []) : FnOk P w K mg base CX0 6 f fd ["many", "arrows"] (spMade K CW) := by
  refine F.ok scMade (fun vs H Q E h => ?_) (fun cdv A outer s H vs Q E hr h => ?_)
  · obtain ⟨x, y, rfl, _⟩ := h
    rfl
  · obtain ⟨x, y, rfl, tx, ty, kQ, kB⟩ := h
    refine ⟨_, pss_cons (ps_set (i := 2) scMade.nd rfl (Or.inl rfl) (pe_tup (pa_cons pe_str (pa_cons pe_non pa_nil))))
      (pss_cons (ps_try_as (i := 3) rfl rfl scMade.nd rfl rfl ⟨rfl, by decide, .inl B.gC⟩ takes0
        (fun W' pn xe tk _ => pss_one (ps_set (i := 2) scMade.nd rfl (Or.inl rfl) (pe_tup (pa_cons pe_str (pa_cons (pe_makeS M FW hr (by rfl) W.mgC bW (fun σ => passAt tk σ) (pa_cons (pv 0) (pa_cons (pv 1) pa_nil))) pa_nil)))))
        (fun a oe cls d pn hz hf => pss_one (ps_if (PW.pt (pw_and (pt_val (pe_callB (call_isX R.is hz hf) (by rfl) T.isi (by decide +kernel) (pa_cons (pv 3) (pa_cons (pe_glob (v := .ref CE) rfl R.gE rfl) pa_nil))))
            (pw_and (pt_val (pe_callB (call_isX R.is hz hf) (by rfl) T.isi (by decide +kernel) (pa_cons (pv 3) (pa_cons (pe_bltn (v := .ty "ValueError") (by rfl) T.ve (by decide +kernel) rfl) pa_nil))))
              (pw_and1 (pt_not (pt_val (pe_callB (call_isXT R.is hz hf) (by rfl) T.isi (by decide +kernel) (pa_cons (pv 3) (pa_cons (pe_tup (pa_cons (pe_glob (v := .ref CP) rfl R.gP rfl) (pa_cons (pe_glob (v := .ref CT) rfl R.gT rfl) pa_nil))) pa_nil)))))))))
          (pss_one (ps_set (i := 2) scMade.nd rfl (Or.inl rfl) (pe_tup (pa_cons pe_str (pa_cons (pe_xf R.xf B.noP hz hf (pv 3)) pa_nil))))) pss_nil)))
      (pss_one (ps_ret (pv 2)))), ?_⟩
    refine ⟨by show 2 ≤ sizeLine; decide, fun t0 n0 => ?_⟩
    have e0 : Ext H (upd H t0 (.tup [.str "other", .non])) := Ext.upd n0
    refine ⟨_, rfl, _, rfl, fun o d no nd ne => ?_⟩
    have e1 := e0.trans ((Ext.upd (o := .own o) nd).trans (Ext.upd (p := o) (o := .ins CW d []) (by rw [upd_ne ne.symm]; exact no)))
    have no' : H o = Option.none := by
      cases q : H o with
      | none => rfl
      | some u =>
        rw [e0 _ _ q] at no
        cases no
    refine ⟨o, d, x, y, rfl, upd_same, tx.ext e1, ty.ext e1, fun m b xs H' em h1 h8 ey hb hl az hw kp => ⟨rfl, ?_⟩, fun v dd H' bp nd' hd ex => ?_⟩
    · subst ey
      have hb' := ty.tup_back e1 hb
      have e2 : Ext H H' := fun c u hc => kp c u (fun z => by rw [z, no'] at hc; cases hc) (e1 _ _ hc)
      refine ⟨by show 2 ≤ sizeLine; decide, fun r nr => ⟨_, rfl, ?_⟩⟩
      refine kQ m b xs r o _ em h1 h8 rfl hb' hl (fun z hz => (az z hz).back e1 (ty.items hb' z hz)) (e2.trans (Ext.upd nr)) upd_same ⟨d, ?_⟩
      rw [upd_ne (ne_of_none hw nr)]
      exact hw
    · have bp' := bp.back e1 ty
      refine ⟨true, R.te, fun _ a na => ?_, fun z => Bool.noConfusion z⟩
      refine ⟨_, rfl, _, _, true, dd, _, rfl, .own CE, rfl, rfl, hd, R.kE, _, rfl, ?_⟩
      refine iteT ⟨_, rfl, _, _, true, dd, _, rfl, .ty "ValueError", rfl, rfl, hd, R.kV, _, rfl, ?_⟩
      refine iteT ⟨_, rfl, by show 2 ≤ sizeLine; decide, fun tp ntp => ?_⟩
      have hd' : (upd H' tp (.tup [.ref CP, .ref CT])) dd = some (.xd [("part", v)]) := by rw [upd_ne (ne_of_none hd ntp)]; exact hd
      refine ⟨tp, [.ref CP, .ref CT], [.ref CP, .ref CT], false, dd, _, rfl, upd_same, .cons (.own CP) (.cons (.own CT) .nil), rfl, rfl, hd', R.kN, _, rfl, ?_⟩
      refine iteT ⟨_, rfl, rfl, rfl, dd, _, v, rfl, hd', rfl, by show 2 ≤ sizeLine; decide, fun r nr => ⟨_, rfl, ?_⟩⟩
      exact kB v r _ bp' ((e1.trans ex).trans ((Ext.upd ntp).trans (Ext.upd nr))) upd_same
end
end K9
set_option Elab.async false
set_option linter.all false
set_option maxRecDepth 100000
set_option maxHeartbeats 4000000
/-! t[::-1] of a pair. -/
namespace K9
open PySem L2 PyProof.Rows
section
variable {prog : Program} {w : World} {A : Around} {E : Value → Shared → Prop} {s : Shared}
theorem back_parts {sl : Addr} {vs : Value} {Q : Int × Int × Nat → Shared → Prop} (hs : s.heap.IsSliceOf sl .none .none vs) (ps : IsPart vs (some (-1))) (h : Q (1, -1, 2) s) :
    wpAny (model prog w) A (Builtin.Slice.sliceApplied (.ref sl) (pure ((2 : Nat) : Int))) Q E s := by
  rcases hs with ⟨ob, there, _, dt⟩
  unfold Builtin.Slice.sliceApplied Builtin.Slice.sliceFields
  refine wpAny_bind (wpAny_bind (wpAny_field there dt (x := .none) rfl (wpAny_bind (wpAny_field there dt (x := .none) rfl (wpAny_bind (wpAny_field there dt (x := vs) rfl (wpAny_pure ?_)))))))
  refine wpAny_bind (HT.slicePart_ ps ?_)
  show wpAny _ _ (if ((-1 : Int) == 0) = true then _ else _) _ _ s
  rw [if_neg (by decide)]
  exact wpAny_bind (HT.slicePart_ .none (wpAny_bind (HT.slicePart_ .none (wpAny_bind (wpAny_pure (wpAny_pure h))))))
theorem back_pair {t sl : Addr} {x y vs : Value} {Q : Value → Shared → Prop} (ht : IsTup s.heap t #[x, y]) (hs : s.heap.IsSliceOf sl .none .none vs) (ps : IsPart vs (some (-1)))
    (h : Q (.ref s.heap.objs.size) { s with heap := s.heap.push { cls := .type "tuple", data := .seq #[y, x] } }) : wpAny (model prog w) A (getItem (.ref t) (.ref sl)) Q E s := by
  have isS : s.TypeIs (.ref sl) "slice" := by
    rcases hs with ⟨ob, there, hc, _⟩
    exact ⟨ob, there, hc⟩
  have fit : sizeOk (.seq #[y, x]) := by
    show 2 ≤ sizeLine
    decide
  unfold getItem
  try with_reducible refine wpAny_holding ?_
  first | refine wpAny_bind (wpAny_pure ?_) | skip
  refine wpAny_bind (wpAny_sequenceKey ht.typeIs (by decide) (wpAny_bind (wpAny_callSpecial?_slot (name := Str.ofString "__getitem__") ht.typeIs slot_tuple_getitem (wpAny_call_entry slot_tuple_getitem ht.typeIs entry_tuple_getitem ?_ (args_tuple_getitem _ _)))))
  show wpAny _ _ (Builtin.Tuple.tupleItemsOf (.ref t) >>= _) _ _ s
  refine wpAny_bind (tupleItemsOf_ ht (wpAny_bind (wpAny_typeOf isS ?_)))
  rw [if_pos (by decide)]
  refine wpAny_bind (back_parts hs ps ?_)
  show wpAny _ _ (if ((1 : Int) == 0 && (-1 : Int) == 1 && (2 : Nat) == 2) = true then _ else _) _ _ s
  rw [if_neg (by decide)]
  have pick : ((List.range 2).filterMap fun (m : Nat) => (#[x, y] : Array Value)[((1 : Int) + (m : Int) * (-1)).toNat]?).toArray = #[y, x] := by rfl
  rw [pick]
  refine wpAny_bind (m := Builtin.Tuple.tupleExact _) ?_
  refine wpAny_newObj_type ?_ fit
  exact wpAny_pure ⟨_, rfl, wpAny_pure h⟩
end
/-- pair[::-1] -/
def tBack (te : TE) : TE := fun σ H Q => te σ H fun v H1 => ∃ (a : Addr) (x y : V), v = .ref a ∧ H1 a = some (.tup [x, y]) ∧ ∀ p, H1 p = none → Q (.ref p) (upd H1 p (.tup [y, x]))
theorem pe_back {X : Cx} {e : Expr} {te : TE} {k : Nat} {p1 p2 p3 pos : Pos} (he : PE X e te) : PE X (.Subscript e (.Slice none none (some (.UnaryOp .USub (.Constant (.int 1) k p1) p2)) p3) pos) (tBack te) := by
  constructor
  intro pins s σ H Q I h
  have minus : PO X (some (.UnaryOp .USub (.Constant (.int 1) k p1) p2)) (tPart (tUn (rU fun i => .int (-i)) (tC (.int 1)))) := po_some (pe_un un_neg pe_int)
  refine Subscript_ (thn (he.run pins s σ H _ I h) ?_)
  rintro v s1 ⟨z, H1, I1, rz, a, x, y, rfl, ha, q⟩
  obtain rfl : v = Value.ref a := rz
  refine wpAny_Slice (thn (po_none.run pins s1 σ H1 (fun o H2 => o = none ∧ H2 = H1) I1 ⟨rfl, rfl⟩) ?_)
  rintro vl s2 ⟨l, H2, I2, pl, rfl, rfl⟩
  refine thn (po_none.run pins s2 σ H2 (fun o H3 => o = none ∧ H3 = H2) I2 ⟨rfl, rfl⟩) ?_
  rintro vu s3 ⟨u, H3, I3, pu, rfl, rfl⟩
  refine thn (minus.run pins s3 σ H3 (fun o H4 => o = some (-1) ∧ H4 = H3) I3 ⟨1, rfl, -1, rfl, rfl, rfl⟩) ?_
  rintro vs s4 ⟨o, H4, I4, ps, rfl, rfl⟩
  have J : Inv X pins σ H4 { s4 with heap := s4.heap.push { cls := .type "slice", data := .fields #[vl, vu, vs] } } := I4.kept (t' := s4.toks) fun b ob z => Heap.get?_push_of_some _ z
  obtain ⟨its, r, ht, _⟩ := J.tuple (SqT.of ha)
  refine tail_any (ops := [.ref a, .ref s4.heap.objs.size]) ht.typeIs slot_tuple_getitem.lookup ?_ (by with_unfolding_all rfl)
  cases pl
  cases pu
  cases r with
  | @cons _ u1 _ _ r1 r =>
    cases r with
    | @cons _ u2 _ _ r2 r =>
      cases r
      refine back_pair ht (Heap.IsSliceOf.new _ .none .none vs) ps ?_
      refine ⟨.ref _, _, J.laid (t' := s4.toks) (o := .tup [y, x]) (fun b ob z => Heap.get?_push_of_some _ z) (Nat.le_refl _) ?_, rfl, q _ (J.hok.fresh (Nat.le_refl _))⟩
      exact ⟨by show 2 ≤ sizeLine; decide, [u2, u1], .cons r2 (.cons r1 .nil), ⟨_, Heap.get?_push_size _ rfl, rfl, _, rfl⟩⟩
end K9
set_option Elab.async false
set_option linter.all false
set_option maxRecDepth 100000
set_option maxHeartbeats 4000000
/-! Draws from menus; odd things; a Table without rows. -/
namespace K9
open PySem L2
abbrev sPrime : Stmt := top 4
abbrev sTabI : Stmt := inClass (top 19) 0
abbrev sOdd : Stmt := top 24
abbrev sPair : Stmt := top 25
/-- what is tracked but for the pot -/
def Off (a : Addr) (H : Hp) : Hp := fun b => if b = a then none else H b
theorem off_at {a b : Addr} {H : Hp} (h : b ≠ a) : Off a H b = H b := if_neg h
theorem off_some {a b : Addr} {H : Hp} {o : HO} (h : Off a H b = some o) : b ≠ a ∧ H b = some o := by
  unfold Off at h
  by_cases e : b = a
  · rw [if_pos e] at h; cases h
  · rw [if_neg e] at h; exact ⟨e, h⟩
theorem Off.ext {a : Addr} {H H' : Hp} (g : ∀ b o, b ≠ a → H b = some o → H' b = some o) : Ext (Off a H) (Off a H') := fun b o h => by
  obtain ⟨n, e⟩ := off_some h
  rw [off_at n]
  exact g b o n e
theorem Go.off {a : Addr} {H H' : Hp} (g : Go a H H') : Ext (Off a H) (Off a H') := Off.ext g.2
theorem Go.of_ext {a : Addr} {H H' : Hp} (p : PotAt H a) (e : Ext H H') : Go a H H' := by
  obtain ⟨c, ns, i, z, s, n, h1, h2⟩ := p
  exact ⟨⟨c, ns, i, z, s, n, e _ _ h1, e _ _ h2⟩, fun b o _ h => e b o h, fun c xs h => ⟨xs, e _ _ h⟩⟩
theorem pot_no {H : Hp} {a b : Addr} {o : HO} (p : PotAt H a) (h : H b = some o) (no : ∀ xs, o ≠ .lst xs) : b ≠ a := by
  obtain ⟨c, ns, i, z, s, n, h1, h2⟩ := p
  intro e
  rw [e, h1] at h
  cases h
  exact no _ rfl
/-! ### kinds of things -/
section
variable {K : PySem.W.Frag} {S : Hp} {n : Nat}
theorem Th.plain {x : V} {t : Value} (ty : TyX K S x t) (h1 : PySem.W.kitOne K t (.type "int") = some (isI x || isB x)) (h2 : PySem.W.kitOne K t (.type "bool") = some (isB x)) (h3 : PySem.W.kitOne K t (.type "tuple") = some false)
    (h : ∀ a, x = .ref a → ∃ o, S a = some o ∧ ∀ xs, o ≠ .tup xs) : Th K S n x := by
  unfold Th
  exact ⟨t, ty, h1, h2, .inl ⟨h3, h⟩⟩
theorem Th.non : Th K S n .non := Th.plain (.base .non) (kit_ty (by decide +kernel)) (kit_ty (by decide +kernel)) (kit_ty (by decide +kernel)) fun _ h => nomatch h
theorem Th.bl (b : Bool) : Th K S n (.bl b) := Th.plain (.base (.bl b)) (kit_ty (show kitB "bool" "int" = some true by decide +kernel)) (kit_ty (show kitB "bool" "bool" = some true by decide +kernel)) (kit_ty (by decide +kernel)) fun _ h => nomatch h
theorem Th.int (i : Int) : Th K S n (.int i) := Th.plain (.base (.int i)) (kit_ty (show kitB "int" "int" = some true by decide +kernel)) (kit_ty (show kitB "int" "bool" = some false by decide +kernel)) (kit_ty (by decide +kernel)) fun _ h => nomatch h
theorem Th.str (z : Str) : Th K S n (.str z) := Th.plain (.base (.str z)) (kit_ty (show kitB "str" "int" = some false by decide +kernel)) (kit_ty (show kitB "str" "bool" = some false by decide +kernel)) (kit_ty (by decide +kernel)) fun _ h => nomatch h
theorem Th.lst {p : Addr} {xs : List V} (h : S p = some (.lst xs)) : Th K S n (.ref p) :=
  Th.plain (.base (.lst h)) (kit_ty (show kitB "list" "int" = some false by decide +kernel)) (kit_ty (show kitB "list" "bool" = some false by decide +kernel)) (kit_ty (by decide +kernel)) fun a e => by cases e; exact ⟨_, h, fun _ z => nomatch z⟩
theorem Th.dct {p : Addr} {kvs : List (Key × V)} (h : S p = some (.dK kvs)) : Th K S n (.ref p) :=
  Th.plain (.base (.dK h)) (kit_ty (show kitB "dict" "int" = some false by decide +kernel)) (kit_ty (show kitB "dict" "bool" = some false by decide +kernel)) (kit_ty (by decide +kernel)) fun a e => by cases e; exact ⟨_, h, fun _ z => nomatch z⟩
theorem Th.tup {p : Addr} {xs : List V} (h : S p = some (.tup xs)) (it : ∀ y ∈ xs, Th K S n y) : Th K S (n + 1) (.ref p) := by
  unfold Th
  exact ⟨_, .base (.tup h), kit_ty (show kitB "tuple" "int" = some false by decide +kernel), kit_ty (show kitB "tuple" "bool" = some false by decide +kernel), .inr ⟨kit_ty (by decide +kernel), p, xs, rfl, h, it⟩⟩
end
/-- what isinstance says of a Table -/
structure TabC (K : PySem.W.Frag) (CT CW : Addr) : Prop where
  is : IsC K CT
  ki : PySem.W.kitOne K (.ref CT) (.type "int") = some false
  kb : PySem.W.kitOne K (.ref CT) (.type "bool") = some false
  kt : PySem.W.kitOne K (.ref CT) (.type "tuple") = some false
  kw : PySem.W.kitOne K (.ref CT) (.ref CW) = some false
  nf : PySem.W.notFirst K CW (.ref CT) = true
theorem Th.tab {K : PySem.W.Frag} {CT CW : Addr} (T : TabC K CT CW) {S : Hp} {n : Nat} {p dx : Addr} {fs : List (Str × V)} (h : S p = some (.ins CT dx fs)) : Th K S n (.ref p) :=
  Th.plain (T.is.ty h) T.ki T.kb T.kt fun a e => by cases e; exact ⟨_, h, fun _ z => nomatch z⟩
/-! ### a Table without rows -/
structure TabD (K : PySem.W.Frag) (mg : Str → Option Value) (CT : Addr) : Prop where
  cl : Cls K CT
  n1 : NoAttr K CT "prime"
  n2 : NoAttr K CT "wide"
  n3 : NoAttr K CT "rows"
  n4 : NoAttr K CT "high"
  mgC : mg "Table" = some (.ref CT)
  mo : ∃ t, mg "MOST" = some (.int 12 t)
  pr : ∃ aP, mg "PRIMES" = some (.ref aP) ∧ ∀ H, SqT K H aP [.int 2, .int 3, .int 5, .int 7, .int 11, .int 13]
def spPrime2 : Sp := fun vs H Q _ => vs = [.int 2] ∧ Q (.bl true) H
def spTab (CT : Addr) : Sp := fun vs H Q _ => ∃ (p b dx : Addr), vs = [.ref p, .int 2, .int 0, .ref b] ∧ H p = some (.ins CT dx []) ∧ H b = some (.tup []) ∧ ∀ H' : Hp, (∃ fs, H' p = some (.ins CT dx fs)) → (∀ c o, c ≠ p → H c = some o → H' c = some o) → Q .non H'
def spAny : Sp := fun vs H Q _ => ∃ (a l : Addr) (xs : List V), vs = [.ref a, .ref l] ∧ PotAt H a ∧ l ≠ a ∧ H l = some (.lst xs) ∧ xs ≠ [] ∧ xs.length ≤ 1000 ∧ ∀ (x : V) (H' : Hp), x ∈ xs → Go a H H' → Q x H'
/-- an odd thing: no int, no arrow -/
def Odd (K : PySem.W.Frag) (S : Hp) (x : V) : Prop := Th K S 2 x ∧ isI x = false ∧ ∀ m, ¬ isArr S m x
def spOdd (K : PySem.W.Frag) : Sp := fun vs H Q _ => ∃ a : Addr, vs = [.ref a] ∧ PotAt H a ∧ ∀ (x : V) (H' : Hp), Go a H H' → Odd K (Off a H') x → Q x H'
def spPair : Sp := fun vs H Q _ => ∃ (a : Addr) (m : Int), vs = [.ref a, .int m] ∧ PotAt H a ∧ 0 < m ∧ m ≤ 1000 ∧ ∀ (r : Addr) (p q : Int) (H' : Hp), Go a H H' → H r = Option.none → H' r = some (.tup [.int p, .int q]) → 0 ≤ p → p < m → 0 ≤ q → q < m → Q (.ref r) H'
section
variable {P : Program} {w : World} {K : PySem.W.Frag} {mg : Str → Option Value} {base : Heap}
theorem scPrime : FnScope ["thing"] ["thing"] (defScope sPrime) := ⟨rfl, rfl, rfl, by decide +kernel, rfl, by decide +kernel, by decide +kernel⟩
theorem ok_prime {f CT : Addr} {fd : FuncData} (F : L2.Fun K "is_prime" "is_prime" sPrime f fd) (D : TabD K mg CT) (cI : Cal P w K mg base 1 "is_integer" (spInteger K) []) : FnOk P w K mg base CX0 2 f fd ["thing"] spPrime2 := by
  obtain ⟨aP, hP, sq⟩ := D.pr
  refine F.ok scPrime (fun vs H Q E h => ?_) (fun cdv A outer s H vs Q E hr h => ?_)
  · obtain ⟨rfl, _⟩ := h
    rfl
  · obtain ⟨rfl, k⟩ := h
    refine ⟨_, pss_one (ps_ret (pe_and (C8.pe_c cI hr (by decide) (by rfl) (pa_cons (pv 0) pa_nil)) (pe_one (pe_cmpR op_in_seq (pv 0) (pe_glob (v := .ref aP) rfl hP rfl) (by rfl))))), ?_⟩
    refine ⟨_, rfl, _, rfl, Th.int 2, _, rfl, ?_⟩
    exact iteT ⟨_, rfl, aP, _, rfl, .inr (sq H), rfl, rfl, k⟩
theorem scTabI : FnScope ["self", "prime", "wide", "rows", "at", "row"] ["self", "prime", "wide", "rows"] (defScope sTabI) := ⟨rfl, rfl, rfl, by decide +kernel, rfl, by decide +kernel, by decide +kernel⟩
theorem ok_tab {f CT : Addr} {fd : FuncData} (F : L2.Fun K "__init__" "Table.__init__" sTabI f fd) (T : Gb mg) (D : TabD K mg CT) (cP : Cal P w K mg base 2 "is_prime" spPrime2 []) (cN : Cal P w K mg base 2 "is_number" (spNumber K) []) :
    FnOk P w K mg base CX0 3 f fd ["self", "prime", "wide", "rows"] (spTab CT) := by
  obtain ⟨t12, h12⟩ := D.mo
  refine F.ok scTabI (fun vs H Q E h => ?_) (fun cdv A outer s H vs Q E hr h => ?_)
  · obtain ⟨p, b, dx, rfl, _⟩ := h
    rfl
  · obtain ⟨p, b, dx, rfl, hp, hb, k⟩ := h
    refine ⟨_, pss_cons (ps_if (pt_not (pt_val (C8.pe_c cP hr (by decide) (by rfl) (pa_cons (pv 1) pa_nil)))) (pss_one ps_never) pss_nil)
      (pss_cons (ps_if (pt_not (pt_val (C8.pe_c cN hr (by decide) (by rfl) (pa_cons (pe_glob (v := .int 12) rfl h12 ⟨_, rfl⟩) (pa_cons (pv 2) pa_nil))))) (pss_one ps_never) pss_nil)
      (pss_cons (ps_if (PW.pt (pw_or (pt_not (pt_val (pe_callB call_isi (by rfl) T.isi (by decide +kernel) (pa_cons (pv 3) (pa_cons (pe_bltn (v := .ty "tuple") (by rfl) T.tup (by decide +kernel) rfl) pa_nil)))))
          (pw_or1 (pt_cmpR op_gt (pe_callB call_len_seq (by rfl) T.len PySem.boot_len (pa_cons (pv 3) pa_nil)) (pe_glob (v := .int 12) rfl h12 ⟨_, rfl⟩) (nomark _))))) (pss_one ps_never) pss_nil)
      (pss_cons (ps_for PassesOwn.never rfl (pi_en (by rfl) T.enum (pa_cons (pv 3) pa_nil)) (pg_tup rfl (pgs_cons (pg_name (i := 4) scTabI.nd rfl (Or.inl rfl)) (pgs_cons (pg_name (i := 5) scTabI.nd rfl (Or.inl rfl)) pgs_nil))) (pss_one ps_never))
      (pss_cons (ps_fld (pv 0) (pv 1) rfl) (pss_cons (ps_fld (pv 0) (pv 2) rfl) (pss_cons (ps_fld (pv 0) (pv 3) rfl)
      (pss_one (ps_fld (pv 0) (pe_callB call_len_seq (by rfl) T.len PySem.boot_len (pa_cons (pv 3) pa_nil)) rfl)))))))), ?_⟩
    refine ⟨_, rfl, rfl, _, rfl, iteF ?_⟩
    refine ⟨_, rfl, 12, .int 0, rfl, Th.int 0, _, rfl, iteF ?_⟩
    refine ⟨_, rfl, _, .ty "tuple", .type "tuple", .type "tuple", true, rfl, .ty _, .base (.tup hb), kit_ty (by decide +kernel), _, rfl, ?_⟩
    refine iteF ⟨_, rfl, b, [], rfl, .inr (SqT.of hb), _, _, rfl, rfl, _, rfl, iteF ?_⟩
    refine ⟨_, rfl, b, [], rfl, hb, for_en (a := b) (xs := []) (fun i σ' H' => σ' = [some (.ref p), some (.int 2), some (.int 0), some (.ref b), Option.none, Option.none] ∧ H' = H) ⟨rfl, rfl⟩ (fun i σ' H' h => by rw [h.2]; exact hb) (fun i x σ' H' q hx => by cases hx) ?_⟩
    rintro σ' H' ⟨rfl, rfl⟩
    have npb : b ≠ p := fun e => by rw [e, hp] at hb; cases hb
    refine ⟨_, rfl, _, rfl, p, CT, dx, [], rfl, hp, D.cl, D.n1, (by show 0 < 1000; decide), ?_⟩
    refine ⟨_, rfl, _, rfl, p, CT, dx, _, rfl, upd_same, D.cl, D.n2, (by show 1 < 1000; decide), ?_⟩
    refine ⟨_, rfl, _, rfl, p, CT, dx, _, rfl, upd_same, D.cl, D.n3, (by show 2 < 1000; decide), ?_⟩
    refine ⟨_, rfl, b, [], rfl, .inr (SqT.of (by rw [upd_ne npb, upd_ne npb, upd_ne npb]; exact hb)), _, rfl, p, CT, dx, _, rfl, upd_same, D.cl, D.n4, (by show 3 < 1000; decide), ?_⟩
    exact k _ ⟨_, upd_same⟩ fun c o n e => by rw [upd_ne n, upd_ne n, upd_ne n, upd_ne n]; exact e
theorem scAny : FnScope ["pot", "things"] ["pot", "things"] (defScope sAny) := ⟨rfl, rfl, rfl, by decide +kernel, rfl, by decide +kernel, by decide +kernel⟩
theorem ok_any {f : Addr} {fd : FuncData} (F : L2.Fun K "_law_any" "_law_any" sAny f fd) (T : Gb mg) (cD : Cal P w K mg base 1 "_law_draw" spDraw []) : FnOk P w K mg base CX0 2 f fd ["pot", "things"] spAny := by
  refine F.ok scAny (fun vs H Q E h => ?_) (fun cdv A outer s H vs Q E hr h => ?_)
  · obtain ⟨a, l, xs, rfl, _⟩ := h
    rfl
  · obtain ⟨a, l, xs, rfl, pot, nl, hl, ne, len, k⟩ := h
    refine ⟨_, pss_one (ps_ret (pe_ix ix_list (pv 1) (C8.pe_c cD hr (by decide) (by rfl) (pa_cons (pv 0) (pa_cons (pe_callB call_len_seq (by rfl) T.len PySem.boot_len (pa_cons (pv 1) pa_nil)) pa_nil))) (fun _ _ => rfl))), ?_⟩
    have pos : 0 < xs.length := List.length_pos_iff.mpr ne
    refine ⟨_, rfl, _, rfl, _, rfl, l, xs, rfl, .inl (SqL.of hl), a, _, rfl, pot, by omega, by omega, fun r H' h0 hlt go => ?_⟩
    have lt : r.toNat < xs.length := by omega
    refine ⟨l, xs, r, xs[r.toNat], rfl, rfl, SqL.of (go.2 _ _ nl hl), at_of (j := r.toNat) (by omega) (List.getElem?_eq_getElem lt), ?_⟩
    exact k _ _ (List.getElem_mem lt) go
end
end K9
set_option Elab.async false
set_option linter.all false
set_option maxRecDepth 100000
set_option maxHeartbeats 4000000
namespace K9
open PySem L2
theorem Odd.obj {K : PySem.W.Frag} {S : Hp} {p : Addr} {o : HO} (t : Th K S 2 (.ref p)) (h : S p = some o) (no : ∀ i j : Int, o ≠ .tup [.int i, .int j]) : Odd K S (.ref p) :=
  ⟨t, rfl, fun m ⟨a, i, j, e, ha, _⟩ => by
    cases e
    rw [h] at ha
    exact no i j (Option.some.inj ha)⟩
theorem Odd.flat {K : PySem.W.Frag} {S : Hp} {x : V} (t : Th K S 2 x) (h : isI x = false) (nr : ∀ a, x ≠ .ref a) : Odd K S x :=
  ⟨t, h, fun m ⟨a, i, j, e, _⟩ => nr a e⟩
/-- what a Table's making leaves -/
theorem tab_ext {H H' : Hp} {o d : Addr} {CT : Addr} (no : H o = none) (nd : H d = none) (kp : ∀ c u, c ≠ o → (upd (upd H d (.own o)) o (.ins CT d [])) c = some u → H' c = some u) : Ext H H' := fun c u h => by
  have h1 := ne_of_none h no
  have h2 := ne_of_none h nd
  exact kp c u h1 (by rw [upd_ne h1, upd_ne h2]; exact h)
section
variable {P : Program} {w : World} {K : PySem.W.Frag} {mg : Str → Option Value} {base : Heap}
theorem scOdd : FnScope ["pot", "deep", "turn"] ["pot"] (defScope sOdd) := ⟨rfl, rfl, rfl, by decide +kernel, rfl, by decide +kernel, by decide +kernel⟩
theorem ok_odd {f fT CT CW : Addr} {fd fdT : FuncData} (F : L2.Fun K "_law_odd" "_law_odd" sOdd f fd) (T : Gb mg) (D : TabD K mg CT) (TC : TabC K CT CW) (cD : Cal P w K mg base 1 "_law_draw" spDraw []) (cA : Cal P w K mg base 2 "_law_any" spAny [])
    (M : Mk K CT fT) (FT : FnOk P w K mg base CX0 3 fT fdT ["self", "prime", "wide", "rows"] (spTab CT)) (bT : Binds K fdT ["self", "prime", "wide", "rows"] []) : FnOk P w K mg base CX0 5 f fd ["pot"] (spOdd K) := by
  refine F.ok scOdd (fun vs H Q E h => ?_) (fun cdv A outer s H vs Q E hr h => ?_)
  · obtain ⟨a, rfl, _⟩ := h
    rfl
  · obtain ⟨a, rfl, pot, k⟩ := h
    refine ⟨_, pss_cons (ps_set (i := 1) scOdd.nd rfl (Or.inl rfl) (pe_lst pa_nil))
      (pss_cons (ps_for PassesOwn.never rfl (pi_range1 (by rfl) T.rng (pa_cons (C8.pe_c cD hr (by decide) (by rfl) (pa_cons (pv 0) (pa_cons pe_int pa_nil))) pa_nil)) (pg_name (i := 2) scOdd.nd rfl (Or.inl rfl))
        (pss_one (ps_set (i := 1) scOdd.nd rfl (Or.inl rfl) (pe_lst (pa_cons (pv 1) pa_nil)))))
      (pss_one (ps_ret (C8.pe_c cA hr (by decide) (by rfl) (pa_cons (pv 0) (pa_cons (pe_lst (pa_cons pe_non (pa_cons pe_bl (pa_cons pe_bl (pa_cons pe_str (pa_cons pe_str (pa_cons (pe_lst pa_nil) (pa_cons pe_dnewK (pa_cons (pv 1)
        (pa_cons (pe_make M FT hr (by rfl) D.mgC bT .nil pass0 (pa_cons pe_int (pa_cons pe_int (pa_cons (pe_tup pa_nil) pa_nil))))
        (pa_cons (pe_tup (pa_cons pe_int pa_nil)) (pa_cons (pe_tup (pa_cons pe_int (pa_cons pe_int (pa_cons pe_int pa_nil)))) (pa_cons (pe_disp (pps_cons pe_int pe_int pps_nil) (by rfl) (by rfl) (fun z => by cases z) (by decide)) (pa_cons pe_str pa_nil)))))))))))))) pa_nil)))))), ?_⟩
    refine ⟨Nat.zero_le _, fun d0 nd0 => ?_⟩
    have pot0 : PotAt (upd H d0 (.lst [])) a := pot.upd nd0
    refine ⟨_, rfl, a, 30, rfl, pot0, by decide, by decide, fun r H1 h0 h30 go1 => ?_⟩
    refine ⟨r, rfl, by omega, by omega, for_range (lo := 0) (n := r.toNat) (fun i σ' H' => ∃ (d : Addr) (ds : List V) (v : Option V), σ' = [some (.ref a), some (.ref d), v] ∧ Go a H H' ∧ d ≠ a ∧ H' d = some (.lst ds)) ?_ ?_ ?_⟩
    · exact ⟨d0, [], Option.none, rfl, (Go.new pot nd0).trans go1, (pot.ne nd0).symm, go1.2 _ _ (pot.ne nd0).symm upd_same⟩
    · rintro i σ' H' hi ⟨d, ds, v, rfl, go, nda, hd⟩
      refine ⟨_, rfl, by show 1 ≤ sizeLine; decide, fun d1 nd1 => ?_⟩
      exact ⟨d1, [.ref d], _, rfl, go.trans (Go.new go.1 nd1), (go.1.ne nd1).symm, upd_same⟩
    · rintro σ' H1 ⟨d, ds, v, rfl, go, nda, hd⟩
      refine ⟨_, rfl, Nat.zero_le _, fun p1 n1 p2 n2 => ⟨_, rfl, Nat.zero_le _, fun b nb o dx no ndx nox => ?_⟩⟩
      have x3 : Ext H1 (upd (upd (upd H1 p1 (.lst [])) p2 (.dK [])) b (.tup [])) := (Ext.upd n1).trans ((Ext.upd n2).trans (Ext.upd nb))
      have g1 : (upd (upd (upd H1 p1 (.lst [])) p2 (.dK [])) b (.tup [])) p1 = some (.lst []) := ((Ext.upd (o := .dK []) n2).trans (Ext.upd (o := .tup []) nb)) _ _ upd_same
      have g2 : (upd (upd (upd H1 p1 (.lst [])) p2 (.dK [])) b (.tup [])) p2 = some (.dK []) := (Ext.upd (o := .tup []) nb) _ _ upd_same
      have g3 : (upd (upd (upd H1 p1 (.lst [])) p2 (.dK [])) b (.tup [])) b = some (.tup []) := upd_same
      generalize hA3 : upd (upd (upd H1 p1 (.lst [])) p2 (.dK [])) b (.tup []) = A3 at *
      have nbo : b ≠ o := ne_of_none g3 no
      have nbd : b ≠ dx := ne_of_none g3 ndx
      refine ⟨o, b, dx, rfl, upd_same, by rw [upd_ne nbo, upd_ne nbd]; exact g3, fun A4 hfs kp => ⟨rfl, ?_⟩⟩
      have x4 : Ext A3 A4 := tab_ext no ndx kp
      obtain ⟨fs, g4⟩ := hfs
      refine ⟨by show 1 ≤ sizeLine; decide, fun p3 n3 => ⟨by show 3 ≤ sizeLine; decide, fun p4 n4 p5 n5 => ⟨upd_same, [(Sum.inl 0, .int 0)], rfl, by decide, ?_⟩⟩⟩
      rw [upd_upd]
      have x8 : Ext A4 (upd (upd (upd A4 p3 (.tup [.int 0])) p4 (.tup [.int 0, .int 0, .int 0])) p5 (.dK (mergeK [] [(Sum.inl 0, .int 0)]))) := (Ext.upd n3).trans ((Ext.upd n4).trans (Ext.upd n5))
      have g5 : (upd (upd (upd A4 p3 (.tup [.int 0])) p4 (.tup [.int 0, .int 0, .int 0])) p5 (.dK (mergeK [] [(Sum.inl 0, .int 0)]))) p3 = some (.tup [.int 0]) := ((Ext.upd n4).trans (Ext.upd n5)) _ _ upd_same
      have g6 : (upd (upd (upd A4 p3 (.tup [.int 0])) p4 (.tup [.int 0, .int 0, .int 0])) p5 (.dK (mergeK [] [(Sum.inl 0, .int 0)]))) p4 = some (.tup [.int 0, .int 0, .int 0]) := (Ext.upd n5) _ _ upd_same
      have g7 : (upd (upd (upd A4 p3 (.tup [.int 0])) p4 (.tup [.int 0, .int 0, .int 0])) p5 (.dK (mergeK [] [(Sum.inl 0, .int 0)]))) p5 = some (.dK (mergeK [] [(Sum.inl 0, .int 0)])) := upd_same
      generalize hA8 : upd (upd (upd A4 p3 (.tup [.int 0])) p4 (.tup [.int 0, .int 0, .int 0])) p5 (.dK (mergeK [] [(Sum.inl 0, .int 0)])) = A8 at *
      refine ⟨by show 13 ≤ sizeLine; decide, fun l nl => ?_⟩
      have x18 : Ext H1 A8 := x3.trans (x4.trans x8)
      have pot8 : PotAt A8 a := (Go.of_ext go.1 x18).1
      refine ⟨a, l, _, rfl, pot8.upd nl, (pot8.ne nl).symm, upd_same, by simp, by show 13 ≤ 1000; decide, fun x H' hx go9 => ?_⟩
      have goH : Go a H1 H' := (Go.of_ext go.1 (x18.trans (Ext.upd nl))).trans go9
      -- where a thing that stands in A8 stands at the end
      have fin : ∀ (q : Addr) (u : HO), q ≠ a → A8 q = some u → (Off a H') q = some u := fun q u nq h => by
        rw [off_at nq]
        exact go9.2 q u nq (Ext.upd nl q u h)
      have pot3 : PotAt A3 a := (Go.of_ext go.1 x3).1
      have pot4 : PotAt A4 a := (Go.of_ext pot3 x4).1
      have q1 := fin p1 _ ((go.1.ne n1).symm) (x8 _ _ (x4 _ _ g1))
      have q2 := fin p2 _ (pot_no pot3 g2 fun _ z => nomatch z) (x8 _ _ (x4 _ _ g2))
      have qd := fin d _ nda (x18 _ _ hd)
      have q4 := fin o _ (pot_no pot4 g4 fun _ z => nomatch z) (x8 _ _ g4)
      have q5 := fin p3 _ (pot_no pot8 g5 fun _ z => nomatch z) g5
      have q6 := fin p4 _ (pot_no pot8 g6 fun _ z => nomatch z) g6
      have q7 := fin p5 _ (pot_no pot8 g7 fun _ z => nomatch z) g7
      refine k x H' (go.trans goH) ?_
      simp only [List.mem_cons, List.not_mem_nil, or_false] at hx
      rcases hx with rfl | rfl | rfl | rfl | rfl | rfl | rfl | rfl | rfl | rfl | rfl | rfl | rfl
      · exact Odd.flat Th.non rfl fun _ z => nomatch z
      · exact Odd.flat (Th.bl _) rfl fun _ z => nomatch z
      · exact Odd.flat (Th.bl _) rfl fun _ z => nomatch z
      · exact Odd.flat (Th.str _) rfl fun _ z => nomatch z
      · exact Odd.flat (Th.str _) rfl fun _ z => nomatch z
      · exact Odd.obj (Th.lst q1) q1 fun _ _ z => nomatch z
      · exact Odd.obj (Th.dct q2) q2 fun _ _ z => nomatch z
      · exact Odd.obj (Th.lst qd) qd fun _ _ z => nomatch z
      · exact Odd.obj (Th.tab TC q4) q4 fun _ _ z => nomatch z
      · exact Odd.obj (Th.tup q5 fun y hy => by rw [List.mem_singleton.mp hy]; exact Th.int 0) q5 fun _ _ z => nomatch z
      · refine Odd.obj (Th.tup q6 fun y hy => ?_) q6 fun _ _ z => nomatch z
        have e : y = .int 0 := by simpa using hy
        rw [e]
        exact Th.int 0
      · exact Odd.obj (Th.dct q7) q7 fun _ _ z => nomatch z
      · exact Odd.flat (Th.str _) rfl fun _ z => nomatch z
theorem scPair : FnScope ["pot", "many", "one"] ["pot", "many"] (defScope sPair) := ⟨rfl, rfl, rfl, by decide +kernel, rfl, by decide +kernel, by decide +kernel⟩
theorem ok_pair {f : Addr} {fd : FuncData} (F : L2.Fun K "_law_pair" "_law_pair" sPair f fd) (cD : Cal P w K mg base 1 "_law_draw" spDraw []) (cA : Cal P w K mg base 2 "_law_any" spAny []) : FnOk P w K mg base CX0 3 f fd ["pot", "many"] spPair := by
  refine F.ok scPair (fun vs H Q E h => ?_) (fun cdv A outer s H vs Q E hr h => ?_)
  · obtain ⟨a, m, rfl, _⟩ := h
    rfl
  · obtain ⟨a, m, rfl, pot, hm, hm2, k⟩ := h
    refine ⟨_, pss_cons (ps_set (i := 2) scPair.nd rfl (Or.inl rfl) (C8.pe_c cD hr (by decide) (by rfl) (pa_cons (pv 0) (pa_cons (pv 1) pa_nil))))
      (pss_one (ps_ret (pe_tup (pa_cons (pv 2) (pa_cons (C8.pe_c cA hr (by decide) (by rfl) (pa_cons (pv 0) (pa_cons (pe_lst (pa_cons (pv 2) (pa_cons (C8.pe_c cD hr (by decide) (by rfl) (pa_cons (pv 0) (pa_cons (pv 1) pa_nil)))
        (pa_cons (C8.pe_c cD hr (by decide) (by rfl) (pa_cons (pv 0) (pa_cons (pv 1) pa_nil))) (pa_cons (C8.pe_c cD hr (by decide) (by rfl) (pa_cons (pv 0) (pa_cons (pv 1) pa_nil))) pa_nil))))) pa_nil))) pa_nil))))), ?_⟩
    refine ⟨_, rfl, _, rfl, a, m, rfl, pot, hm, by omega, fun r1 H1 a1 b1 g1 => ?_⟩
    refine ⟨_, rfl, _, rfl, _, rfl, _, rfl, _, rfl, a, m, rfl, g1.1, hm, by omega, fun r2 H2 a2 b2 g2 => ?_⟩
    refine ⟨_, rfl, _, rfl, a, m, rfl, g2.1, hm, by omega, fun r3 H3 a3 b3 g3 => ?_⟩
    refine ⟨_, rfl, _, rfl, a, m, rfl, g3.1, hm, by omega, fun r4 H4 a4 b4 g4 => ?_⟩
    refine ⟨by show 4 ≤ sizeLine; decide, fun l nl => ?_⟩
    refine ⟨a, l, _, rfl, g4.1.upd nl, (g4.1.ne nl).symm, upd_same, by simp, by show 4 ≤ 1000; decide, fun x H5 hx g5 => ?_⟩
    refine ⟨by show 2 ≤ sizeLine; decide, fun t nt => ?_⟩
    have go : Go a H H5 := g1.trans (g2.trans (g3.trans (g4.trans ((Go.new g4.1 nl).trans g5))))
    have nt0 : H t = Option.none := by
      cases q : H t with
      | none => rfl
      | some u =>
        have z := go.2 t u (fun e => by subst e; exact (go.1.ne nt) rfl) q
        rw [nt] at z
        cases z
    simp only [List.mem_cons, List.not_mem_nil, or_false] at hx
    rcases hx with rfl | rfl | rfl | rfl
    · exact k t r1 r1 _ (go.trans (Go.new go.1 nt)) nt0 upd_same a1 b1 a1 b1
    · exact k t r1 r2 _ (go.trans (Go.new go.1 nt)) nt0 upd_same a1 b1 a2 b2
    · exact k t r1 r3 _ (go.trans (Go.new go.1 nt)) nt0 upd_same a1 b1 a3 b3
    · exact k t r1 r4 _ (go.trans (Go.new go.1 nt)) nt0 upd_same a1 b1 a4 b4
end
end K9
set_option Elab.async false
set_option linter.all false
set_option maxRecDepth 100000
set_option maxHeartbeats 4000000
namespace K9
open PySem L2
/-! ### heaps of which only lists' items change -/
def LExt (S S' : Hp) : Prop := ∀ b o, S b = some o → S' b = some o ∨ ∃ xs ys, o = .lst xs ∧ S' b = some (.lst ys)
theorem LExt.of {S S' : Hp} (e : Ext S S') : LExt S S' := fun b o h => .inl (e b o h)
theorem LExt.trans {S T U : Hp} (x : LExt S T) (y : LExt T U) : LExt S U := fun b o h => by
  rcases x b o h with h1 | ⟨xs, ys, rfl, h1⟩
  · exact y b o h1
  · rcases y b _ h1 with h2 | ⟨_, zs, _, h2⟩
    · exact .inr ⟨xs, ys, rfl, h2⟩
    · exact .inr ⟨xs, zs, rfl, h2⟩
theorem LExt.put {S : Hp} {f : Addr} {xs ys : List V} (h : S f = some (.lst xs)) : LExt S (upd S f (.lst ys)) := fun b o hb => by
  by_cases e : b = f
  · rw [e, h] at hb
    cases hb
    exact .inr ⟨xs, ys, rfl, by rw [e, upd_same]⟩
  · exact .inl (by rw [upd_ne e]; exact hb)
theorem off_upd {a f : Addr} {H : Hp} {o : HO} (h : f ≠ a) : Off a (upd H f o) = upd (Off a H) f o := by
  funext b
  by_cases e : b = a
  · unfold Off
    rw [if_pos e, upd_ne (fun z => h (z.symm.trans e)), if_pos e]
  · rw [off_at e]
    by_cases e2 : b = f
    · rw [e2, upd_same, upd_same]
    · rw [upd_ne e2, upd_ne e2, off_at e]
theorem TyOf.lext {K : PySem.W.Frag} {H H' : Hp} {x : V} {t : Value} (h : TyOf K H x t) (e : LExt H H') : TyOf K H' x t := by
  cases h with
  | non => exact .non
  | bl x => exact .bl x
  | int i => exact .int i
  | str x => exact .str x
  | flt x => exact .flt x
  | lst h =>
    rcases e _ _ h with h1 | ⟨_, _, _, h1⟩
    · exact .lst h1
    · exact .lst h1
  | frz h =>
    rcases e _ _ h with h1 | ⟨_, _, z, _⟩
    · exact .frz h1
    · cases z
  | tup h =>
    rcases e _ _ h with h1 | ⟨_, _, z, _⟩
    · exact .tup h1
    · cases z
  | dK h =>
    rcases e _ _ h with h1 | ⟨_, _, z, _⟩
    · exact .dK h1
    · cases z
  | dT h =>
    rcases e _ _ h with h1 | ⟨_, _, z, _⟩
    · exact .dT h1
    · cases z
  | ins h c a b d f =>
    rcases e _ _ h with h1 | ⟨_, _, z, _⟩
    · exact .ins h1 c a b d f
    · cases z
theorem TyX.lext {K : PySem.W.Frag} {H H' : Hp} {x : V} {t : Value} (h : TyX K H x t) (e : LExt H H') : TyX K H' x t := by
  cases h with
  | base h => exact .base (TyOf.lext h e)
  | byt b => exact .byt b
  | set h =>
    rcases e _ _ h with h1 | ⟨_, _, z, _⟩
    · exact .set h1
    · cases z
  | kList h c => exact .kList h c
  | kTuple h c => exact .kTuple h c
  | kDict h c => exact .kDict h c
  | fTuple h =>
    rcases e _ _ h with h1 | ⟨_, _, z, _⟩
    · exact .fTuple h1
    · cases z
  | fDict h =>
    rcases e _ _ h with h1 | ⟨_, _, z, _⟩
    · exact .fDict h1
    · cases z
theorem no_tup {S S' : Hp} (e : LExt S S') {x : V} (f : ∀ a, x = .ref a → ∃ o, S a = some o ∧ ∀ xs, o ≠ .tup xs) : ∀ a, x = .ref a → ∃ o, S' a = some o ∧ ∀ xs, o ≠ .tup xs := fun a q => by
  obtain ⟨o, h1, h2⟩ := f a q
  rcases e _ _ h1 with h3 | ⟨_, ys, _, h3⟩
  · exact ⟨o, h3, h2⟩
  · exact ⟨_, h3, fun _ z => nomatch z⟩
theorem tup_lext {S S' : Hp} (e : LExt S S') {a : Addr} {xs : List V} (h : S a = some (.tup xs)) : S' a = some (.tup xs) := by
  rcases e _ _ h with h1 | ⟨_, _, z, _⟩
  · exact h1
  · cases z
theorem Th.lext {K : PySem.W.Frag} {H H' : Hp} (e : LExt H H') : ∀ {n : Nat} {x : V}, Th K H n x → Th K H' n x
  | 0, x, h => by
    unfold Th at h ⊢
    obtain ⟨t, a, b, c, d⟩ := h
    refine ⟨t, TyX.lext a e, b, c, ?_⟩
    rcases d with ⟨d, f⟩ | ⟨d, a, xs, g, f, _⟩
    · exact .inl ⟨d, no_tup e f⟩
    · exact .inr ⟨d, a, xs, g, tup_lext e f, True.intro⟩
  | n + 1, x, h => by
    unfold Th at h ⊢
    obtain ⟨t, a, b, c, d⟩ := h
    refine ⟨t, TyX.lext a e, b, c, ?_⟩
    rcases d with ⟨d, f⟩ | ⟨d, a, xs, g, f, i⟩
    · exact .inl ⟨d, no_tup e f⟩
    · exact .inr ⟨d, a, xs, g, tup_lext e f, fun y hy => Th.lext e (i y hy)⟩
theorem isArr.lext {H H' : Hp} {m : Int} {x : V} (e : LExt H H') (h : isArr H m x) : isArr H' m x := by
  obtain ⟨a, p, q, ex, ha, r⟩ := h
  exact ⟨a, p, q, ex, tup_lext e ha, r⟩
theorem isArr.lback {K : PySem.W.Frag} {H H1 : Hp} {n : Nat} {m : Int} {x : V} (e : LExt H H1) (h : Th K H n x) (h1 : isArr H1 m x) : isArr H m x := by
  obtain ⟨a, p, q, rfl, ha, r⟩ := h1
  refine ⟨a, p, q, rfl, ?_, r⟩
  unfold Th at h
  obtain ⟨t, _, _, _, h⟩ := h
  rcases h with ⟨_, h⟩ | ⟨_, b', ys, e', hb, _⟩
  · obtain ⟨o, ho, no⟩ := no_tup e h a rfl
    rw [ho] at ha
    cases ha
    exact absurd rfl (no _)
  · cases e'
    have z := tup_lext e hb
    rw [z] at ha
    cases ha
    exact hb
/-! ### lists of arrows -/
def ArrL (m : Int) (l : List Int) : Prop := ∃ p q : Int, l = [p, q] ∧ 0 ≤ p ∧ p < m ∧ 0 ≤ q ∧ q < m
/-- the tuples at these places are these -/
abbrev PT2 (S : Hp) (as : List Addr) (ll : List (List Int)) : Prop := Paired (fun a l => S a = some (.tup (l.map V.int))) as ll
theorem PT2.len {S : Hp} : ∀ {as : List Addr} {ll : List (List Int)}, PT2 S as ll → as.length = ll.length
  | _, _, .nil => rfl
  | _, _, .cons _ r => congrArg (· + 1) (PT2.len r)
theorem PT2.get {S : Hp} : ∀ {as : List Addr} {ll : List (List Int)} {i : Nat} {a : Addr}, PT2 S as ll → as[i]? = some a → ∃ l, ll[i]? = some l ∧ S a = some (.tup (l.map V.int))
  | _, _, i, _, .nil, h => by simp at h
  | _, _, 0, _, .cons x _, h => by cases h; exact ⟨_, rfl, x⟩
  | _, _, i + 1, _, .cons _ r, h => PT2.get (i := i) r (by simpa using h)
theorem PT2.put {S : Hp} {b : Addr} {l : List Int} (h : S b = some (.tup (l.map V.int))) : ∀ {as : List Addr} {ll : List (List Int)} {i : Nat}, PT2 S as ll → PT2 S (as.set i b) (ll.set i l)
  | _, _, i, .nil => by simpa using (Paired.nil)
  | _, _, 0, .cons _ r => .cons h r
  | _, _, i + 1, .cons x r => .cons x (PT2.put h r)
theorem PT2.snoc {S : Hp} {b : Addr} {l : List Int} {as : List Addr} {ll : List (List Int)} (r : PT2 S as ll) (h : S b = some (.tup (l.map V.int))) : PT2 S (as ++ [b]) (ll ++ [l]) := Paired.snoc r h
theorem PT2.mono {S S' : Hp} {as : List Addr} {ll : List (List Int)} (e : ∀ b xs, S b = some (.tup xs) → S' b = some (.tup xs)) (r : PT2 S as ll) : PT2 S' as ll := Paired.imp' (fun a l h => e _ _ h) r
theorem PT2.th {K : PySem.W.Frag} {S : Hp} {n : Nat} {as : List Addr} {ll : List (List Int)} (r : PT2 S as ll) : ∀ y ∈ as.map V.ref, Th K S (n + 1) y := by
  intro y hy
  obtain ⟨a, ha, rfl⟩ := List.mem_map.mp hy
  obtain ⟨i, hi⟩ := List.mem_iff_getElem?.mp ha
  obtain ⟨l, _, h⟩ := r.get hi
  refine Th.tup h fun z hz => ?_
  obtain ⟨k, _, rfl⟩ := List.mem_map.mp hz
  exact Th.int k
theorem PT2.arr {S : Hp} {m : Int} {as : List Addr} {ll : List (List Int)} (r : PT2 S as ll) (h : ∀ l ∈ ll, ArrL m l) {i : Nat} {y : V} (hy : (as.map V.ref)[i]? = some y) : isArr S m y := by
  rw [List.getElem?_map] at hy
  cases e : as[i]? with
  | none => rw [e] at hy; cases hy
  | some a =>
    rw [e] at hy
    cases hy
    obtain ⟨l, hl, ha⟩ := r.get e
    obtain ⟨p, q, rfl, b⟩ := h l (List.mem_of_getElem? hl)
    exact ⟨a, p, q, rfl, ha, b⟩
/-- the found arrows stand in the list at f -/
def FoundAt (a : Addr) (m : Int) (f : Addr) (n : Nat) (H : Hp) : Prop := f ≠ a ∧ (∀ c xs, H a = some (.lst (.ref c :: xs)) → c ≠ f) ∧ ∃ (as : List Addr) (ll : List (List Int)), H f = some (.lst (as.map V.ref)) ∧ PT2 H as ll ∧ (∀ l ∈ ll, ArrL m l) ∧ as.length = n
theorem FoundAt.go {a f : Addr} {m : Int} {n : Nat} {H H' : Hp} (F : FoundAt a m f n H) (p : PotAt H a) (g : Go a H H') : FoundAt a m f n H' := by
  obtain ⟨nf, nc, as, ll, h1, h2, h3, h4⟩ := F
  refine ⟨nf, fun c xs h => ?_, as, ll, g.2 _ _ nf h1, h2.mono fun b xs h => g.2 _ _ (pot_no p h fun _ z => nomatch z) h, h3, h4⟩
  obtain ⟨c', ns, i, z, s, n', p1, _⟩ := p
  obtain ⟨ys, h'⟩ := g.3 _ _ p1
  rw [h] at h'
  cases h'
  exact nc _ _ p1
theorem FoundAt.ext {a f : Addr} {m : Int} {n : Nat} {H H' : Hp} (F : FoundAt a m f n H) (p : PotAt H a) (e : Ext H H') : FoundAt a m f n H' := F.go p (Go.of_ext p e)
/-- a store in the found list -/
theorem Go.put {a f : Addr} {H0 H : Hp} {o : HO} (g : Go a H0 H) (h0 : H0 f = none) (nf : f ≠ a) (nc : ∀ c xs, H a = some (.lst (.ref c :: xs)) → c ≠ f) : Go a H0 (upd H f o) := by
  obtain ⟨c, ns, i, z, s, n, p1, p2⟩ := g.1
  refine ⟨⟨c, ns, i, z, s, n, by rw [upd_ne nf.symm]; exact p1, by rw [upd_ne (nc _ _ p1)]; exact p2⟩, fun b u nb h => ?_, fun c' xs h => ?_⟩
  · rw [upd_ne (ne_of_none h h0)]
    exact g.2 b u nb h
  · obtain ⟨ys, h'⟩ := g.3 c' xs h
    exact ⟨ys, by rw [upd_ne nf.symm]; exact h'⟩
/-- what _law_arrows tells -/
def ArrOut (K : PySem.W.Frag) (S : Hp) (m : Int) (y v : V) : Prop := Th K S 2 y ∧
  ((v = .non ∧ ∃ b ll, y = .ref b ∧ TT S b ll ∧ ll.length ≤ 12 ∧ ∀ l ∈ ll, ArrL m l) ∨
   (v = .str "arrows" ∧ ¬ ∃ b xs, y = .ref b ∧ S b = some (.tup xs) ∧ xs.length ≤ 12) ∨
   ∃ (b : Addr) (xs : List V) (k : Nat) (z : V), y = .ref b ∧ S b = some (.tup xs) ∧ xs.length ≤ 12 ∧ v = .int (k : Int) ∧ xs[k]? = some z ∧ ¬ isArr S m z ∧ ∀ i u, i < k → xs[i]? = some u → isArr S m u)
def spArrows (K : PySem.W.Frag) : Sp := fun vs H Q _ => ∃ (a : Addr) (m : Int), vs = [.ref a, .int m] ∧ PotAt H a ∧ 1 ≤ m ∧ m ≤ 8 ∧ ∀ (r : Addr) (y v : V) (H' : Hp), Go a H H' → H' r = some (.tup [y, v]) → ArrOut K (Off a H') m y v → Q (.ref r) H'
end K9
set_option Elab.async false
set_option linter.all false
set_option maxRecDepth 100000
set_option maxHeartbeats 8000000
namespace K9
open PySem L2
abbrev sArrows : Stmt := top 26
theorem ixN_lt {n j : Nat} (h : j < n) : ixN n (j : Int) = some j := by
  unfold ixN
  rw [if_pos (by omega), if_pos (by omega)]
  simp
theorem Go.fresh {a f : Addr} {H H' : Hp} (g : Go a H H') (h : H' f = none) : H f = none := by
  cases q : H f with
  | none => rfl
  | some u =>
    by_cases e : f = a
    · rw [e] at h
      exact absurd h (by obtain ⟨c, ns, i, z, s, n, p1, _⟩ := g.1; rw [p1]; exact fun z => nomatch z)
    · rw [g.2 f u e q] at h
      cases h
theorem FoundAt.list {a f : Addr} {m : Int} {n : Nat} {H : Hp} (F : FoundAt a m f n H) : ∃ xs : List V, H f = some (.lst xs) ∧ xs.length = n ∧ (∀ i, i < n → ∃ (b : Addr) (p q : Int), xs[i]? = some (.ref b) ∧ H b = some (.tup [.int p, .int q]) ∧ 0 ≤ p ∧ p < m ∧ 0 ≤ q ∧ q < m) := by
  obtain ⟨nf, nc, as, ll, h1, h2, h3, h4⟩ := F
  refine ⟨_, h1, by rw [List.length_map]; exact h4, fun i hi => ?_⟩
  have hi' : i < as.length := by omega
  obtain ⟨l, hl, hb⟩ := h2.get (List.getElem?_eq_getElem hi')
  obtain ⟨p, q, rfl, bd⟩ := h3 l (List.mem_of_getElem? hl)
  exact ⟨as[i], p, q, by rw [List.getElem?_map, List.getElem?_eq_getElem hi']; rfl, hb, bd⟩
theorem lst_ne {H : Hp} {f b : Addr} {xs ys : List V} (hf : H f = some (.lst xs)) (hb : H b = some (.tup ys)) : b ≠ f := fun e => by
  rw [e, hf] at hb
  cases hb
theorem FoundAt.put {a f nb : Addr} {m p q : Int} {n : Nat} {H : Hp} {xs : List V} (F : FoundAt a m f n H) (hf : H f = some (.lst xs)) (h : H nb = some (.tup [.int p, .int q])) (bd : 0 ≤ p ∧ p < m ∧ 0 ≤ q ∧ q < m) (i : Nat) :
    FoundAt a m f n (upd H f (.lst (xs.set i (.ref nb)))) := by
  obtain ⟨nf, nc, as, ll, h1, h2, h3, h4⟩ := F
  rw [hf] at h1
  cases h1
  refine ⟨nf, fun c ys hy => nc c ys (by rw [upd_ne nf.symm] at hy; exact hy), as.set i nb, ll.set i [p, q], ?_, ?_, fun l hl => ?_, by rw [List.length_set]; exact h4⟩
  · rw [upd_same, List.map_set]
  · exact (PT2.put (l := [p, q]) h h2).mono fun b ys hb => by rw [upd_ne (lst_ne hf hb)]; exact hb
  · rcases List.mem_or_eq_of_mem_set hl with hl | rfl
    · exact h3 l hl
    · exact ⟨p, q, rfl, bd⟩
theorem FoundAt.push {a f nb : Addr} {m p q : Int} {n : Nat} {H : Hp} {xs : List V} (F : FoundAt a m f n H) (hf : H f = some (.lst xs)) (h : H nb = some (.tup [.int p, .int q])) (bd : 0 ≤ p ∧ p < m ∧ 0 ≤ q ∧ q < m) :
    FoundAt a m f (n + 1) (upd H f (.lst (xs ++ [.ref nb]))) := by
  obtain ⟨nf, nc, as, ll, h1, h2, h3, h4⟩ := F
  rw [hf] at h1
  cases h1
  refine ⟨nf, fun c ys hy => nc c ys (by rw [upd_ne nf.symm] at hy; exact hy), as ++ [nb], ll ++ [[p, q]], ?_, ?_, fun l hl => ?_, by rw [List.length_append, h4]; rfl⟩
  · rw [upd_same, List.map_append]
    rfl
  · exact (PT2.snoc (l := [p, q]) h2 h).mono fun b ys hb => by rw [upd_ne (lst_ne hf hb)]; exact hb
  · rcases List.mem_append.mp hl with hl | hl
    · exact h3 l hl
    · rw [List.mem_singleton.mp hl]
      exact ⟨p, q, rfl, bd⟩
/-- what stands in the place of an arrow and is none -/
def NotArr (K : PySem.W.Frag) (S : Hp) (m : Int) (z : V) : Prop := Th K S 1 z ∧ ¬ isArr S m z
theorem NotArr.lext {K : PySem.W.Frag} {S S' : Hp} {m : Int} {z : V} (e : LExt S S') (h : NotArr K S m z) : NotArr K S' m z := ⟨h.1.lext e, fun q => h.2 (q.lback e h.1)⟩
theorem NotArr.tup {K : PySem.W.Frag} {S : Hp} {m : Int} {b : Addr} {xs : List V} (h : S b = some (.tup xs)) (it : ∀ y ∈ xs, Th K S 0 y) (no : ∀ p q : Int, xs = [.int p, .int q] → ¬ (0 ≤ p ∧ p < m ∧ 0 ≤ q ∧ q < m)) : NotArr K S m (.ref b) :=
  ⟨Th.tup h it, fun ⟨c, p, q, e, hc, bd⟩ => by
    cases e
    rw [h] at hc
    cases hc
    exact no p q rfl bd⟩
theorem Th.down {K : PySem.W.Frag} {S : Hp} : ∀ {n : Nat} {x : V}, Th K S (n + 1) x → Th K S n x
  | 0, x, h => h.zero
  | n + 1, x, h => by
    unfold Th at h ⊢
    obtain ⟨t, a, b, c, d⟩ := h
    refine ⟨t, a, b, c, ?_⟩
    rcases d with d | ⟨d, a, xs, g, f, i⟩
    · exact .inl d
    · exact .inr ⟨d, a, xs, g, f, fun y hy => Th.down (i y hy)⟩
theorem Odd.na {K : PySem.W.Frag} {S : Hp} {m : Int} {x : V} (h : Odd K S x) : NotArr K S m x := ⟨h.1.down, h.2.2 m⟩
/-- a list whose k-th item is the first that is no arrow -/
def BadSt (K : PySem.W.Frag) (a : Addr) (m : Int) (f : Addr) (n k : Nat) (H : Hp) : Prop := ∃ (ys : List V) (z : V), H f = some (.lst ys) ∧ ys.length = n ∧ ys[k]? = some z ∧ NotArr K (Off a H) m z ∧ (∀ i u, i < k → ys[i]? = some u → isArr (Off a H) m u) ∧ ∀ y ∈ ys, Th K (Off a H) 1 y
theorem BadSt.put {K : PySem.W.Frag} {a f : Addr} {m : Int} {n k j : Nat} {H : Hp} {xs : List V} {v : V} (nf : f ≠ a) (hf : H f = some (.lst xs)) (B : BadSt K a m f n k H) (hj : k < j) (tv : Th K (Off a H) 1 v) :
    BadSt K a m f n k (upd H f (.lst (xs.set j v))) := by
  obtain ⟨ys, z, h1, h2, h3, h4, h5, h6⟩ := B
  rw [hf] at h1
  cases h1
  have le : LExt (Off a H) (Off a (upd H f (.lst (xs.set j v)))) := by
    rw [off_upd nf]
    exact LExt.put (by rw [off_at nf]; exact hf)
  refine ⟨_, z, upd_same, by rw [List.length_set]; exact h2, ?_, h4.lext le, fun i u hi hu => ?_, fun y hy => ?_⟩
  · rw [List.getElem?_set_ne (by omega)]; exact h3
  · rw [List.getElem?_set_ne (by omega)] at hu
    exact (h5 i u hi hu).lext le
  · rcases List.mem_or_eq_of_mem_set hy with hy | rfl
    · exact (h6 y hy).lext le
    · exact tv.lext le
theorem BadSt.go {K : PySem.W.Frag} {a f : Addr} {m : Int} {n k : Nat} {H H' : Hp} (nf : f ≠ a) (B : BadSt K a m f n k H) (g : Go a H H') : BadSt K a m f n k H' := by
  obtain ⟨ys, z, h1, h2, h3, h4, h5, h6⟩ := B
  have le := LExt.of g.off
  exact ⟨ys, z, g.2 _ _ nf h1, h2, h3, h4.lext le, fun i u hi hu => (h5 i u hi hu).lext le, fun y hy => (h6 y hy).lext le⟩
/-- the found arrows as things -/
theorem FoundAt.things {K : PySem.W.Frag} {a f : Addr} {m : Int} {n : Nat} {H : Hp} {xs : List V} (F : FoundAt a m f n H) (p : PotAt H a) (hf : H f = some (.lst xs)) : (∀ y ∈ xs, Th K (Off a H) 1 y) ∧ ∀ (i : Nat) u, xs[i]? = some u → isArr (Off a H) m u := by
  obtain ⟨nf, nc, as, ll, h1, h2, h3, h4⟩ := F
  rw [hf] at h1
  cases h1
  have pt : PT2 (Off a H) as ll := h2.mono fun b ys hb => by rw [off_at (pot_no p hb fun _ z => nomatch z)]; exact hb
  exact ⟨pt.th, fun i u hu => pt.arr h3 hu⟩
section
variable {P : Program} {w : World} {K : PySem.W.Frag} {mg : Str → Option Value} {base : Heap}
theorem scArrs : FnScope ["pot", "many", "size", "found", "kind", "at", "some", "later", "turn"] ["pot", "many"] (defScope sArrows) := ⟨rfl, rfl, rfl, by decide +kernel, rfl, by decide +kernel, by decide +kernel⟩
theorem ok_arrows {f fT CT CW : Addr} {fd fdT : FuncData} (F : L2.Fun K "_law_arrows" "_law_arrows" sArrows f fd) (T : Gb mg) (D : TabD K mg CT) (TC : TabC K CT CW) (cD : Cal P w K mg base 1 "_law_draw" spDraw []) (cA : Cal P w K mg base 2 "_law_any" spAny [])
    (cO : Cal P w K mg base 5 "_law_odd" (spOdd K) []) (cP : Cal P w K mg base 3 "_law_pair" spPair [])
    (M : Mk K CT fT) (FT : FnOk P w K mg base CX0 3 fT fdT ["self", "prime", "wide", "rows"] (spTab CT)) (bT : Binds K fdT ["self", "prime", "wide", "rows"] []) : FnOk P w K mg base CX0 6 f fd ["pot", "many"] (spArrows K) := by
  refine F.ok scArrs (fun vs H Q E h => ?_) (fun cdv A outer s H vs Q E hr h => ?_)
  · obtain ⟨a, m, rfl, _⟩ := h
    rfl
  · obtain ⟨a, m, rfl, pot, hm1, hm8, k⟩ := h
    have hr4 : Room 4 _ := hr.mono (by decide)
    refine ⟨_, pss_cons (ps_set (i := 2) scArrs.nd rfl (Or.inl rfl) (C8.pe_c cA hr (by decide) (by rfl) (pa_cons (pv 0) (pa_cons (pe_lst (pa_cons pe_int (pa_cons pe_int (pa_cons pe_int (pa_cons (pv 1) (pa_cons pe_int (pa_cons (C8.pe_c cD hr (by decide) (by rfl) (pa_cons (pv 0) (pa_cons pe_int pa_nil))) pa_nil))))))) pa_nil))))
      (C8.pss_cut (ps_setLc (i := 3) (own := [("turn", 8)]) (g := gName 8) (tt := tYes) rfl scArrs.nd rfl rfl (sw_true rfl rfl rfl (by decide +kernel)) (pi_range1 (by rfl) T.rng (pa_cons (pv 2) pa_nil)) (blkOk_by (N := ["pot", "many", "size", "found", "kind", "at", "some", "later", "turn"]) (sc := defScope sArrows) (by decide +kernel))
          (fun _ _ _ _ _ => pg_name (i := 8) scArrs.nd rfl (Or.inl rfl)) (fun _ _ _ _ _ => pts_nil) (fun _ _ _ _ _ => C8.pe_c cP hr (by decide) (by rfl) (pa_cons (pv 0) (pa_cons (pv 1) pa_nil))))
      (C8.pss_cut (ps_if (PW.pt (pw_and (pt_cmpR op_gt (pv 2) pe_int (nomark _)) (pw_and1 (pt_cmpR op_eq (C8.pe_c cD hr (by decide) (by rfl) (pa_cons (pv 0) (pa_cons pe_int pa_nil))) pe_int (nomark _)))))
          (pss_one (ps_asg (C8.pe_c cA hr (by decide) (by rfl) (pa_cons (pv 0) (pa_cons (pe_lst (pa_cons (pe_ix ix_list (pv 3) pe_int (fun _ _ => rfl)) (pa_cons (pe_back (pe_ix ix_list (pv 3) pe_int (fun _ _ => rfl))) pa_nil))) pa_nil))) (pg_sub (pv 3) pe_int set_list))) pss_nil)
      (pss_cons (ps_par (i := 4) (j := 5) rfl scArrs.nd rfl rfl (by decide) rfl rfl (pa_cons (C8.pe_c cD hr (by decide) (by rfl) (pa_cons (pv 0) (pa_cons pe_int pa_nil))) (pa_cons (C8.pe_c cD hr (by decide) (by rfl) (pa_cons (pv 0) (pa_cons (pe_callB (call_max2 rfl) (by rfl) T.max (by decide +kernel) (pa_cons pe_int (pa_cons (pv 2) pa_nil))) pa_nil))) pa_nil)) (by rfl))
      (pss_cons (ps_if (pt_cmpR op_eq (pv 4) pe_int (nomark _)) (pss_one (ps_ret (pe_tup (pa_cons (C8.pe_c cA hr (by decide) (by rfl) (pa_cons (pv 0) (pa_cons (pe_lst (pa_cons (pv 3) (pa_cons pe_non (pa_cons pe_int (pa_cons pe_str (pa_cons pe_dnewK (pa_cons pe_bl (pa_cons (pe_make M FT hr4 (by rfl) D.mgC bT .nil pass0 (pa_cons pe_int (pa_cons pe_int (pa_cons (pe_tup pa_nil) pa_nil)))) pa_nil)))))))) pa_nil))) (pa_cons pe_str pa_nil))))) pss_nil)
      (pss_cons (ps_if (pt_cmpR op_eq (pv 4) pe_int (nomark _)) (pss_one (ps_ret (pe_tup (pa_cons (pe_callTy call_tuple_of (by rfl) T.tup (by decide +kernel) (pa_cons (pe_op op_cat (pv 3) (pe_op op_rep (pe_lst (pa_cons (pe_tup (pa_cons pe_int (pa_cons pe_int pa_nil))) pa_nil)) (pe_op op_sub pe_int (pv 2)))) pa_nil)) (pa_cons pe_str pa_nil))))) pss_nil)
      (C8.pss_cut (ps_if (PW.pt (pw_and (pt_cmpR op_eq (pv 4) pe_int (nomark _)) (pw_and1 (pt_cmpR op_gt (pv 2) pe_int (nomark _)))))
          (pss_cons (ps_set (i := 6) scArrs.nd rfl (Or.inl rfl) (pe_lst (pa_cons (pe_callTy call_list_of (by rfl) T.list (by decide +kernel) (pa_cons (pe_ix ix_list (pv 3) (pv 5) (fun _ _ => rfl)) pa_nil)) (pa_cons (pe_op op_catT (pe_ix ix_list (pv 3) (pv 5) (fun _ _ => rfl)) (pe_tup (pa_cons pe_int pa_nil)))
              (pa_cons (pe_tup (pa_cons (pv 1) (pa_cons pe_int pa_nil))) (pa_cons (pe_tup (pa_cons pe_int (pa_cons (pv 1) pa_nil))) (pa_cons (pe_tup (pa_cons (pe_un un_neg pe_int) (pa_cons pe_int pa_nil))) (pa_cons (pe_tup (pa_cons pe_int (pa_cons (pe_un un_neg pe_int) pa_nil)))
              (pa_cons (pe_tup (pa_cons pe_bl (pa_cons pe_int pa_nil))) (pa_cons (pe_tup (pa_cons pe_int (pa_cons pe_bl pa_nil))) pa_nil))))))))))
          (pss_cons (ps_asg (C8.pe_c cA hr (by decide) (by rfl) (pa_cons (pv 0) (pa_cons (pe_op op_cat (pv 6) (pe_lst (pa_cons (C8.pe_c cO hr (by decide) (by rfl) (pa_cons (pv 0) pa_nil)) (pa_cons (pe_tup (pa_cons pe_int pa_nil)) (pa_cons (pe_tup (pa_cons pe_non (pa_cons pe_int pa_nil)))
              (pa_cons (pe_tup (pa_cons (pe_tup (pa_cons pe_int pa_nil)) (pa_cons pe_int pa_nil))) (pa_cons (pe_tup (pa_cons pe_int (pa_cons pe_str pa_nil))) pa_nil))))))) pa_nil))) (pg_sub (pv 3) (pv 5) set_list))
          (pss_cons (ps_set (i := 7) scArrs.nd rfl (Or.inl rfl) (C8.pe_c cD hr (by decide) (by rfl) (pa_cons (pv 0) (pa_cons (pv 2) pa_nil))))
          (C8.pss_cut (ps_if (pt_cmpR op_gt (pv 7) (pv 5) (nomark _)) (pss_one (ps_asg pe_non (pg_sub (pv 3) (pv 7) set_list))) pss_nil)
          (pss_one (ps_ret (pe_tup (pa_cons (pe_callTy call_tuple_of (by rfl) T.tup (by decide +kernel) (pa_cons (pv 3) pa_nil)) (pa_cons (pv 5) pa_nil))))))))) pss_nil)
      (pss_one (ps_ret (pe_tup (pa_cons (pe_callTy call_tuple_of (by rfl) T.tup (by decide +kernel) (pa_cons (pv 3) pa_nil)) (pa_cons pe_non pa_nil))))))))))), ?_⟩
    -- size
    refine ⟨_, rfl, _, rfl, _, rfl, a, 13, rfl, pot, by decide, by decide, fun r13 H1 a13 b13 g1 => ?_⟩
    refine ⟨by show 6 ≤ sizeLine; decide, fun l0 nl0 => ?_⟩
    refine ⟨a, l0, _, rfl, g1.1.upd nl0, (g1.1.ne nl0).symm, upd_same, by simp, by show 6 ≤ 1000; decide, fun x H2 hx g2 => ?_⟩
    have goA : Go a H H2 := g1.trans ((Go.new g1.1 nl0).trans g2)
    obtain ⟨sz, rfl, hs0, hs12⟩ : ∃ sz : Int, x = .int sz ∧ 0 ≤ sz ∧ sz ≤ 12 := by
      simp only [List.mem_cons, List.not_mem_nil, or_false] at hx
      rcases hx with rfl | rfl | rfl | rfl | rfl | rfl
      · exact ⟨_, rfl, by decide, by decide⟩
      · exact ⟨_, rfl, by decide, by decide⟩
      · exact ⟨_, rfl, by decide, by decide⟩
      · exact ⟨_, rfl, by omega, by omega⟩
      · exact ⟨_, rfl, by decide, by decide⟩
      · exact ⟨_, rfl, by omega, by omega⟩
    clear hx g1 g2 nl0
    -- found = [..]
    refine ⟨fun σ' H' => ∃ f : Addr, σ' = [some (.ref a), some (.int m), some (.int sz), some (.ref f), Option.none, Option.none, Option.none, Option.none, Option.none] ∧ Go a H H' ∧ FoundAt a m f sz.toNat H' ∧ H f = Option.none, ?_, ?_⟩
    · refine ⟨_, rfl, sz, rfl, by omega, by omega, fun f nf => lc_range (lo := 0) (n := sz.toNat) (fun i H' => Go a H H' ∧ FoundAt a m f i H') ?_ ?_ ?_⟩
      · refine ⟨goA.trans (Go.new goA.1 nf), (goA.1.ne nf).symm, fun c xs hc => ?_, [], [], upd_same, .nil, fun l hl => by simp at hl, rfl⟩
        rw [upd_ne (goA.1.ne nf)] at hc
        obtain ⟨c', ns, i, z, s, n, p1, p2⟩ := goA.1
        rw [p1] at hc
        cases hc
        exact ne_of_none p2 nf
      · rintro i H' hi ⟨go, Fo⟩
        refine ⟨rfl, tyes_in ?_⟩
        refine ⟨_, rfl, _, rfl, a, m, rfl, go.1, by omega, by omega, fun r p q H'' g3 nr hrr p0 pm q0 qm => ?_⟩
        have Fo' := Fo.go go.1 g3
        obtain ⟨xs, hf, hlen, _⟩ := Fo'.list
        exact ⟨xs, hf, small1000 (by omega), (go.trans g3).put (goA.fresh nf) Fo'.1 Fo'.2.1, Fo'.push hf hrr ⟨p0, pm, q0, qm⟩⟩
      · rintro H' ⟨go, Fo⟩
        exact ⟨f, rfl, go, Fo, goA.fresh nf⟩
    · rintro σ' H3 ⟨f, rfl, go3, Fo3, nf0⟩
      -- found[0] turned about
      refine ⟨fun σ' H' => σ' = [some (.ref a), some (.int m), some (.int sz), some (.ref f), Option.none, Option.none, Option.none, Option.none, Option.none] ∧ Go a H H' ∧ FoundAt a m f sz.toNat H', ?_, ?_⟩
      · refine ⟨_, rfl, _, _, rfl, rfl, _, rfl, ?_⟩
        refine ite2 (fun z => ?_) (fun _ => iteF ⟨rfl, go3, Fo3⟩)
        have hs2 : 1 < sz := of_decide_eq_true z
        refine ⟨_, rfl, a, 3, rfl, go3.1, by decide, by decide, fun r3 H4 _ _ g4 => ⟨rfl, _, rfl, ?_⟩⟩
        have Fo4 := Fo3.go go3.1 g4
        have go4 := go3.trans g4
        refine ite2 (fun _ => ?_) (fun _ => ⟨rfl, go4, Fo4⟩)
        obtain ⟨xs, hf, hlen, hx⟩ := Fo4.list
        obtain ⟨b1, p, q, h1, hb1, bd⟩ := hx 1 (by omega)
        have at1 : atI xs (1 : Int) = some (.ref b1) := at_of (j := 1) rfl h1
        refine ⟨_, rfl, _, rfl, f, xs, 1, _, rfl, rfl, SqL.of hf, at1, _, rfl, f, xs, 1, _, rfl, rfl, SqL.of hf, at1, b1, _, _, rfl, hb1, fun t nt => ⟨by show 2 ≤ sizeLine; decide, fun l nl => ?_⟩⟩
        have e6 : Ext H4 (upd (upd H4 t (.tup [.int q, .int p])) l (.lst [.ref b1, .ref t])) := (Ext.upd nt).trans (Ext.upd nl)
        have g6 := Go.of_ext go4.1 e6
        refine ⟨a, l, _, rfl, g6.1, ((go4.1.upd nt).ne nl).symm, upd_same, by simp, by show 2 ≤ 1000; decide, fun x H7 hx7 g7 => ?_⟩
        have go7 := go4.trans (g6.trans g7)
        have Fo7 := (Fo4.go go4.1 g6).go g6.1 g7
        obtain ⟨xs7, hf7, hlen7, _⟩ := Fo7.list
        obtain ⟨nb, p', q', rfl, hnb, bd'⟩ : ∃ (nb : Addr) (p' q' : Int), x = .ref nb ∧ H7 nb = some (.tup [.int p', .int q']) ∧ 0 ≤ p' ∧ p' < m ∧ 0 ≤ q' ∧ q' < m := by
          simp only [List.mem_cons, List.not_mem_nil, or_false] at hx7
          rcases hx7 with rfl | rfl
          · have z := e6 _ _ hb1
            exact ⟨b1, p, q, rfl, g7.2 _ _ (pot_no g6.1 z fun _ z => nomatch z) z, bd⟩
          · have z : (upd (upd H4 t (.tup [.int q, .int p])) l (.lst [.ref b1, .ref t])) t = some (.tup [.int q, .int p]) := Ext.upd nl _ _ upd_same
            exact ⟨t, q, p, rfl, g7.2 _ _ (pot_no g6.1 z fun _ z => nomatch z) z, bd.2.2.1, bd.2.2.2, bd.1, bd.2.1⟩
        refine ⟨_, rfl, f, xs7, 0, 0, rfl, rfl, hf7, ixN_lt (j := 0) (by omega), rfl, ?_, ?_⟩
        · exact go7.put nf0 Fo7.1 Fo7.2.1
        · exact Fo7.put hf7 hnb bd' 0
      · rintro σ' H5 ⟨rfl, go5, Fo5⟩
        -- kind, at
        refine ⟨_, rfl, a, 8, rfl, go5.1, by decide, by decide, fun kd H6 k0 k8 g6 => ?_⟩
        refine ⟨_, rfl, _, rfl, 1, sz, rfl, a, _, rfl, g6.1, by split <;> omega, by split <;> omega, fun at' H7 at0 at1 g7 => ⟨_, _, rfl, ?_⟩⟩
        have hat : at' < sz ∨ sz = 0 := by
          by_cases h : sz > 1
          · rw [if_pos h] at at1; exact .inl at1
          · rw [if_neg h] at at1; omega
        have go7 := go5.trans (g6.trans g7)
        have Fo7 := (Fo5.go go5.1 g6).go g6.1 g7
        have pot7 := go7.1
        clear at1 g6 g7 Fo5 go5 Fo3 go3 goA
        obtain ⟨xs, hf, hlen, hx⟩ := Fo7.list
        -- kind == 0
        refine ⟨_, rfl, rfl, _, rfl, ?_⟩
        refine ite2 (fun _ => ?_) (fun _ => ?_)
        · refine ⟨_, rfl, _, rfl, fun p2 n2 => ⟨by show 0 ≤ sizeLine; decide, fun b nb o dx no ndx nox => ?_⟩⟩
          have g2 : (upd (upd H7 p2 (.dK [])) b (.tup [])) p2 = some (.dK []) := Ext.upd nb _ _ upd_same
          have gb : (upd (upd H7 p2 (.dK [])) b (.tup [])) b = some (.tup []) := upd_same
          have x2 : Ext H7 (upd (upd H7 p2 (.dK [])) b (.tup [])) := (Ext.upd n2).trans (Ext.upd nb)
          generalize hB : upd (upd H7 p2 (.dK [])) b (.tup []) = B at *
          refine ⟨o, b, dx, rfl, upd_same, by rw [upd_ne (ne_of_none gb no), upd_ne (ne_of_none gb ndx)]; exact gb, fun B4 hfs kp => ⟨rfl, ?_⟩⟩
          have x4 : Ext B B4 := tab_ext no ndx kp
          obtain ⟨fs, g4⟩ := hfs
          have x44 := x2.trans x4
          have gB := Go.of_ext pot7 x44
          refine ⟨by show 7 ≤ sizeLine; decide, fun l nl => ?_⟩
          refine ⟨a, l, _, rfl, gB.1.upd nl, (gB.1.ne nl).symm, upd_same, by simp, by show 7 ≤ 1000; decide, fun y H9 hy g9 => ⟨by show 2 ≤ sizeLine; decide, fun r nr => ?_⟩⟩
          have go9 : Go a H7 (upd H9 r (.tup [y, .str "arrows"])) := gB.trans ((Go.new gB.1 nl).trans (g9.trans (Go.new g9.1 nr)))
          have fin : ∀ (q : Addr) (u : HO), q ≠ a → B4 q = some u → (Off a (upd H9 r (.tup [y, .str "arrows"]))) q = some u := fun q u nq h => by
            rw [off_at nq]
            exact Ext.upd nr q u (g9.2 q u nq (Ext.upd nl q u h))
          have q1 := fin f _ Fo7.1 (x44 _ _ hf)
          have q2 := fin p2 _ (pot_no (Go.of_ext pot7 x2).1 g2 fun _ z => nomatch z) (x4 _ _ g2)
          have q3 := fin o _ (pot_no gB.1 g4 fun _ z => nomatch z) g4
          refine k r y (.str "arrows") _ (go7.trans go9) upd_same ?_
          simp only [List.mem_cons, List.not_mem_nil, or_false] at hy
          rcases hy with rfl | rfl | rfl | rfl | rfl | rfl | rfl
          · exact ⟨Th.lst q1, .inr (.inl ⟨rfl, fun ⟨c, ys, e, hc, _⟩ => by cases e; rw [q1] at hc; cases hc⟩)⟩
          · exact ⟨Th.non, .inr (.inl ⟨rfl, fun ⟨c, ys, e, hc, _⟩ => nomatch e⟩)⟩
          · exact ⟨Th.int _, .inr (.inl ⟨rfl, fun ⟨c, ys, e, hc, _⟩ => nomatch e⟩)⟩
          · exact ⟨Th.str _, .inr (.inl ⟨rfl, fun ⟨c, ys, e, hc, _⟩ => nomatch e⟩)⟩
          · exact ⟨Th.dct q2, .inr (.inl ⟨rfl, fun ⟨c, ys, e, hc, _⟩ => by cases e; rw [q2] at hc; cases hc⟩)⟩
          · exact ⟨Th.bl _, .inr (.inl ⟨rfl, fun ⟨c, ys, e, hc, _⟩ => nomatch e⟩)⟩
          · exact ⟨Th.tab TC q3, .inr (.inl ⟨rfl, fun ⟨c, ys, e, hc, _⟩ => by cases e; rw [q3] at hc; cases hc⟩)⟩
        -- kind == 1
        refine ⟨_, rfl, rfl, _, rfl, ?_⟩
        refine ite2 (fun _ => ?_) (fun _ => ?_)
        · refine ⟨_, rfl, by show 2 ≤ sizeLine; decide, fun t nt => ⟨by show 1 ≤ sizeLine; decide, fun l nl => ?_⟩⟩
          have x1 : Ext H7 (upd (upd H7 t (.tup [.int 0, .int 0])) l (.lst [.ref t])) := (Ext.upd nt).trans (Ext.upd nl)
          refine ⟨_, rfl, _, _, rfl, rfl, l, _, _, rfl, rfl, upd_same, by omega, by omega, Nat.le_trans (Nat.le_of_eq (Nat.one_mul _)) (Nat.le_of_lt (small1000 (by omega))), fun rp nrp => ?_⟩
          have rep : (List.replicate (13 - sz).toNat [V.ref t]).flatten = List.replicate (13 - sz).toNat (V.ref t) := by
            generalize (13 - sz).toNat = k
            induction k with
            | zero => rfl
            | succ k ih => rw [List.replicate_succ, List.flatten_cons, ih]; rfl
          rw [rep]
          refine ⟨f, rp, xs, _, rfl, rfl, Ext.upd nrp _ _ (x1 _ _ hf), upd_same, by rw [List.length_replicate]; exact Nat.le_of_lt (small1000 (by omega)), fun ct nct => ?_⟩
          refine ⟨ct, _, rfl, .inl ⟨SqL.of upd_same, fun t2 nt2 => ⟨by show 2 ≤ sizeLine; decide, fun r nr => ?_⟩⟩⟩
          have x2 : Ext H7 _ := x1.trans ((Ext.upd (o := .lst (List.replicate (13 - sz).toNat (V.ref t))) nrp).trans ((Ext.upd (o := .lst (xs ++ List.replicate (13 - sz).toNat (V.ref t))) nct).trans ((Ext.upd (o := .tup (xs ++ List.replicate (13 - sz).toNat (V.ref t))) nt2).trans (Ext.upd (o := .tup [.ref t2, .str "arrows"]) nr))))
          have ht := ((Ext.upd (o := .lst [.ref t]) nl).trans ((Ext.upd (o := .lst (List.replicate (13 - sz).toNat (V.ref t))) nrp).trans ((Ext.upd (o := .lst (xs ++ List.replicate (13 - sz).toNat (V.ref t))) nct).trans ((Ext.upd (o := .tup (xs ++ List.replicate (13 - sz).toNat (V.ref t))) nt2).trans (Ext.upd (o := .tup [.ref t2, .str "arrows"]) nr))))) t _ upd_same
          have ht2 := (Ext.upd (o := .tup [.ref t2, .str "arrows"]) nr) t2 _ upd_same
          have hr2 := upd_same (H := (upd (upd (upd (upd (upd H7 t (.tup [.int 0, .int 0])) l (.lst [.ref t])) rp (.lst (List.replicate (13 - sz).toNat (V.ref t)))) ct (.lst (xs ++ List.replicate (13 - sz).toNat (V.ref t)))) t2 (.tup (xs ++ List.replicate (13 - sz).toNat (V.ref t))))) (a := r) (o := .tup [.ref t2, .str "arrows"])
          generalize hZ : upd (upd (upd (upd (upd (upd H7 t (.tup [.int 0, .int 0])) l (.lst [.ref t])) rp (.lst (List.replicate (13 - sz).toNat (V.ref t)))) ct (.lst (xs ++ List.replicate (13 - sz).toNat (V.ref t)))) t2 (.tup (xs ++ List.replicate (13 - sz).toNat (V.ref t)))) r (.tup [.ref t2, .str "arrows"]) = Z at *
          have gZ := Go.of_ext pot7 x2
          obtain ⟨th7, _⟩ := Fo7.things (K := K) pot7 hf
          have oz : ∀ {b : Addr} {ys : List V}, Z b = some (.tup ys) → (Off a Z) b = some (.tup ys) := fun h => by rw [off_at (pot_no gZ.1 h fun _ z => nomatch z)]; exact h
          refine k r (.ref t2) (.str "arrows") Z (go7.trans gZ) hr2 ⟨Th.tup (oz ht2) fun y hy => ?_, .inr (.inl ⟨rfl, fun ⟨c, ys, e, hc, hl⟩ => ?_⟩)⟩
          · rcases List.mem_append.mp hy with hy | hy
            · exact (th7 y hy).ext gZ.off
            · rw [(List.mem_replicate.mp hy).2]
              exact Th.tup (oz ht) fun z hz => by
                have e : z = .int 0 := by simpa using hz
                rw [e]
                exact Th.int 0
          · cases e
            rw [oz ht2] at hc
            cases hc
            rw [List.length_append, List.length_replicate] at hl
            omega
        -- kind == 2
        obtain ⟨th7, ar7⟩ := Fo7.things (K := K) pot7 hf
        refine ⟨fun σ' H' => σ' = [some (.ref a), some (.int m), some (.int sz), some (.ref f), some (.int kd), some (.int at'), Option.none, Option.none, Option.none] ∧ H' = H7, ?_, ?_⟩
        · refine ⟨_, rfl, rfl, _, rfl, ?_⟩
          refine ite2 (fun _ => ?_) (fun _ => iteF ⟨rfl, rfl⟩)
          refine ⟨_, rfl, _, _, rfl, rfl, _, rfl, ?_⟩
          refine ite2 (fun zz => ?_) (fun _ => ⟨rfl, rfl⟩)
          have hsp : 0 < sz := of_decide_eq_true zz
          have hat' : at' < sz := by omega
          obtain ⟨b0, p, q, h0, hb0, bd⟩ := hx at'.toNat (by omega)
          have hati : atI xs at' = some (.ref b0) := at_of (j := at'.toNat) (by omega) h0
          refine ⟨_, rfl, _, rfl, f, xs, at', _, rfl, rfl, SqL.of hf, hati, b0, _, rfl, .inr (SqT.of hb0), fun l1 n1 => ?_⟩
          refine ⟨_, rfl, _, rfl, f, xs, at', _, rfl, rfl, SqL.of (Ext.upd n1 _ _ hf), hati, by show 1 ≤ sizeLine; decide, fun u0 nu0 => ?_⟩
          refine ⟨b0, u0, _, _, rfl, rfl, SqT.of (Ext.upd nu0 _ _ (Ext.upd n1 _ _ hb0)), SqT.of upd_same, by simp, by show 3 ≤ sizeLine; decide, fun z => absurd z (by simp), fun _ u1 nu1 => ?_⟩
          refine ⟨_, rfl, by show 2 ≤ sizeLine; decide, fun v1 nv1 => ⟨_, rfl, by show 2 ≤ sizeLine; decide, fun v2 nv2 => ⟨1, rfl, by show 2 ≤ sizeLine; decide, fun v3 nv3 => ⟨1, rfl, by show 2 ≤ sizeLine; decide, fun v4 nv4 => ⟨by show 2 ≤ sizeLine; decide, fun v5 nv5 => ⟨by show 2 ≤ sizeLine; decide, fun v6 nv6 => ⟨by show 8 ≤ sizeLine; decide, fun so nso => ?_⟩⟩⟩⟩⟩⟩⟩
          have e9 := Ext.upd (o := .tup [.int 0, .bl false]) nv6
          have e8 := (Ext.upd (o := .tup [.bl true, .int 0]) nv5).trans e9
          have e7 := (Ext.upd (o := .tup [.int 0, .int (-1)]) nv4).trans e8
          have e6 := (Ext.upd (o := .tup [.int (-1), .int 0]) nv3).trans e7
          have e5 := (Ext.upd (o := .tup [.int 0, .int m]) nv2).trans e6
          have e4 := (Ext.upd (o := .tup [.int m, .int 0]) nv1).trans e5
          have e3 := (Ext.upd (o := .tup ([.int p, .int q] ++ [.int 0])) nu1).trans e4
          have e2 := (Ext.upd (o := .tup [.int 0]) nu0).trans e3
          have e1 := (Ext.upd (o := .lst [.int p, .int q]) n1).trans e2
          have wl1 := e2 l1 _ upd_same
          have wu1 := e4 u1 _ upd_same
          have wv1 := e5 v1 _ upd_same
          have wv2 := e6 v2 _ upd_same
          have wv3 := e7 v3 _ upd_same
          have wv4 := e8 v4 _ upd_same
          have wv5 := e9 v5 _ upd_same
          have wv6 := upd_same (H := upd (upd (upd (upd (upd (upd (upd (upd H7 l1 (.lst [.int p, .int q])) u0 (.tup [.int 0])) u1 (.tup ([.int p, .int q] ++ [.int 0]))) v1 (.tup [.int m, .int 0])) v2 (.tup [.int 0, .int m])) v3 (.tup [.int (-1), .int 0])) v4 (.tup [.int 0, .int (-1)])) v5 (.tup [.bl true, .int 0])) (a := v6) (o := .tup [.int 0, .bl false])
          have nl1a : l1 ≠ a := (pot7.ne n1).symm
          clear e2 e3 e4 e5 e6 e7 e8 e9
          generalize hA : upd (upd (upd (upd (upd (upd (upd (upd (upd H7 l1 (.lst [.int p, .int q])) u0 (.tup [.int 0])) u1 (.tup ([.int p, .int q] ++ [.int 0]))) v1 (.tup [.int m, .int 0])) v2 (.tup [.int 0, .int m])) v3 (.tup [.int (-1), .int 0])) v4 (.tup [.int 0, .int (-1)])) v5 (.tup [.bl true, .int 0])) v6 (.tup [.int 0, .bl false]) = A' at *
          have gA := Go.of_ext pot7 e1
          have gS : Go a A' (upd A' so (.lst [.ref l1, .ref u1, .ref v1, .ref v2, .ref v3, .ref v4, .ref v5, .ref v6])) := Go.new gA.1 nso
          have nsa : so ≠ a := (gA.1.ne nso).symm
          refine ⟨_, rfl, _, rfl, _, rfl, a, rfl, gS.1, fun xo HB gB odd => ?_⟩
          refine ⟨by show 1 ≤ sizeLine; decide, fun c1 nc1 => ⟨by show 2 ≤ sizeLine; decide, fun c2 nc2 => ⟨by show 1 ≤ sizeLine; decide, fun c3 nc3 => ⟨by show 2 ≤ sizeLine; decide, fun c4 nc4 => ⟨by show 2 ≤ sizeLine; decide, fun c5 nc5 => ⟨by show 5 ≤ sizeLine; decide, fun lo nlo => ?_⟩⟩⟩⟩⟩⟩
          have d5 := Ext.upd (o := .tup [.int 0, .str "0"]) nc5
          have d4 := (Ext.upd (o := .tup [.ref c3, .int 0]) nc4).trans d5
          have d3 := (Ext.upd (o := .tup [.int 0]) nc3).trans d4
          have d2 := (Ext.upd (o := .tup [.non, .int 0]) nc2).trans d3
          have d1 := (Ext.upd (o := .tup [.int 0]) nc1).trans d2
          have y1 := d2 c1 _ upd_same
          have y2 := d3 c2 _ upd_same
          have y3 := d4 c3 _ upd_same
          have y4 := d5 c4 _ upd_same
          have y5 := upd_same (H := upd (upd (upd (upd HB c1 (.tup [.int 0])) c2 (.tup [.non, .int 0])) c3 (.tup [.int 0])) c4 (.tup [.ref c3, .int 0])) (a := c5) (o := .tup [.int 0, .str "0"])
          clear d2 d3 d4 d5
          generalize hB5 : upd (upd (upd (upd (upd HB c1 (.tup [.int 0])) c2 (.tup [.non, .int 0])) c3 (.tup [.int 0])) c4 (.tup [.ref c3, .int 0])) c5 (.tup [.int 0, .str "0"]) = B' at *
          have gB5 : Go a HB B' := Go.of_ext gB.1 d1
          have hso : B' so = some (.lst [.ref l1, .ref u1, .ref v1, .ref v2, .ref v3, .ref v4, .ref v5, .ref v6]) := d1 _ _ (gB.2 _ _ nsa upd_same)
          refine ⟨so, lo, _, _, rfl, rfl, Ext.upd nlo _ _ hso, upd_same, by show 13 ≤ sizeLine; decide, fun mn nmn => ?_⟩
          have xM : Ext B' (upd (upd B' lo (.lst [xo, .ref c1, .ref c2, .ref c4, .ref c5])) mn (.lst ([.ref l1, .ref u1, .ref v1, .ref v2, .ref v3, .ref v4, .ref v5, .ref v6] ++ [xo, .ref c1, .ref c2, .ref c4, .ref c5]))) := (Ext.upd nlo).trans (Ext.upd nmn)
          have gM := Go.of_ext gB5.1 xM
          refine ⟨a, mn, _, rfl, gM.1, ((gB5.1.upd nlo).ne nmn).symm, upd_same, by simp, by show 13 ≤ 1000; decide, fun z HC hz gC => ?_⟩
          have gBC : Go a B' HC := gM.trans gC
          have gAC : Go a A' HC := gS.trans (gB.trans (gB5.trans gBC))
          have g7C : Go a H7 HC := gA.trans gAC
          have hfC : HC f = some (.lst xs) := g7C.2 _ _ Fo7.1 hf
          have oA : ∀ {b : Addr} {ys : List V}, A' b = some (.tup ys) → (Off a HC) b = some (.tup ys) := fun {b ys} h => by
            have n := pot_no gA.1 h fun _ z => nomatch z
            rw [off_at n]
            exact gAC.2 _ _ n h
          have oB : ∀ {b : Addr} {ys : List V}, B' b = some (.tup ys) → (Off a HC) b = some (.tup ys) := fun {b ys} h => by
            have n := pot_no gB5.1 h fun _ z => nomatch z
            rw [off_at n]
            exact gBC.2 _ _ n h
          have flat : ∀ {ys : List V}, (∀ y ∈ ys, ∀ b, y ≠ .ref b) → (∀ y ∈ ys, (∃ i, y = .int i) ∨ (∃ b, y = .bl b) ∨ y = .non ∨ ∃ z, y = .str z) → ∀ y ∈ ys, Th K (Off a HC) 0 y := fun _ h y hy => by
            rcases h y hy with ⟨i, rfl⟩ | ⟨b, rfl⟩ | rfl | ⟨z, rfl⟩
            · exact Th.int i
            · exact Th.bl b
            · exact Th.non
            · exact Th.str z
          have naz : NotArr K (Off a HC) m z := by
            simp only [List.mem_cons, List.cons_append, List.nil_append, List.not_mem_nil, or_false] at hz
            rcases hz with rfl | rfl | rfl | rfl | rfl | rfl | rfl | rfl | rfl | rfl | rfl | rfl | rfl
            · have w : (Off a HC) l1 = some (.lst [.int p, .int q]) := by
                rw [off_at nl1a]
                exact gAC.2 _ _ nl1a wl1
              exact ⟨Th.lst w, fun ⟨c, i, j, e, hc, _⟩ => by cases e; rw [w] at hc; cases hc⟩
            · refine NotArr.tup (oA wu1) (fun y hy => ?_) fun i j e => by simp at e
              have hy : y = .int p ∨ y = .int q ∨ y = .int 0 := by simpa using hy
              rcases hy with rfl | rfl | rfl <;> exact Th.int _
            · refine NotArr.tup (oA wv1) (fun y hy => ?_) fun i j e bd => by injection e with e1 e2; injection e1 with e1; omega
              have hy : y = .int m ∨ y = .int 0 := by simpa using hy
              rcases hy with rfl | rfl <;> exact Th.int _
            · refine NotArr.tup (oA wv2) (fun y hy => ?_) fun i j e bd => by injection e with e1 e2; injection e2 with e2 e3; injection e2 with e2; omega
              have hy : y = .int 0 ∨ y = .int m := by simpa using hy
              rcases hy with rfl | rfl <;> exact Th.int _
            · refine NotArr.tup (oA wv3) (fun y hy => ?_) fun i j e bd => by injection e with e1 e2; injection e1 with e1; omega
              have hy : y = .int (-1) ∨ y = .int 0 := by simpa using hy
              rcases hy with rfl | rfl <;> exact Th.int _
            · refine NotArr.tup (oA wv4) (fun y hy => ?_) fun i j e bd => by injection e with e1 e2; injection e2 with e2 e3; injection e2 with e2; omega
              have hy : y = .int 0 ∨ y = .int (-1) := by simpa using hy
              rcases hy with rfl | rfl <;> exact Th.int _
            · refine NotArr.tup (oA wv5) (fun y hy => ?_) fun i j e bd => by injection e with e1 e2; cases e1
              have hy : y = .bl true ∨ y = .int 0 := by simpa using hy
              rcases hy with rfl | rfl
              · exact Th.bl _
              · exact Th.int _
            · refine NotArr.tup (oA wv6) (fun y hy => ?_) fun i j e bd => by injection e with e1 e2; injection e2 with e2 e3; cases e2
              have hy : y = .int 0 ∨ y = .bl false := by simpa using hy
              rcases hy with rfl | rfl
              · exact Th.int _
              · exact Th.bl _
            · exact odd.na.lext (LExt.of (gB5.trans gBC).off)
            · refine NotArr.tup (oB y1) (fun y hy => by rw [List.mem_singleton.mp hy]; exact Th.int 0) fun i j e bd => by simp at e
            · refine NotArr.tup (oB y2) (fun y hy => ?_) fun i j e bd => by injection e with e1 e2; cases e1
              have hy : y = .non ∨ y = .int 0 := by simpa using hy
              rcases hy with rfl | rfl
              · exact Th.non
              · exact Th.int _
            · refine NotArr.tup (oB y4) (fun y hy => ?_) fun i j e bd => by injection e with e1 e2; cases e1
              have hy : y = .ref c3 ∨ y = .int 0 := by simpa using hy
              rcases hy with rfl | rfl
              · exact (Th.tup (n := 0) (oB y3) fun y hy => by rw [List.mem_singleton.mp hy]; exact Th.int 0).zero
              · exact Th.int _
            · refine NotArr.tup (oB y5) (fun y hy => ?_) fun i j e bd => by injection e with e1 e2; injection e2 with e2 e3; cases e2
              have hy : y = .int 0 ∨ y = .str "0" := by simpa using hy
              rcases hy with rfl | rfl
              · exact Th.int _
              · exact Th.str _
          -- found[at] = z
          have Fo7C := Fo7.go pot7 g7C
          refine ⟨_, rfl, _, rfl, f, xs, at', at'.toNat, rfl, rfl, hfC, ?_, ?_⟩
          · have e : ((at'.toNat : Nat) : Int) = at' := by omega
            rw [← e]
            exact ixN_lt (by omega)
          have gC' : Go a H (upd HC f (.lst (xs.set at'.toNat z))) := (go7.trans g7C).put nf0 Fo7C.1 Fo7C.2.1
          have leC : LExt (Off a HC) (Off a (upd HC f (.lst (xs.set at'.toNat z)))) := by
            rw [off_upd Fo7C.1]
            exact LExt.put (by rw [off_at Fo7C.1]; exact hfC)
          have le7 : LExt (Off a H7) (Off a (upd HC f (.lst (xs.set at'.toNat z)))) := (LExt.of g7C.off).trans leC
          have bad : BadSt K a m f sz.toNat at'.toNat (upd HC f (.lst (xs.set at'.toNat z))) := by
            refine ⟨_, z, upd_same, by rw [List.length_set]; exact hlen, by rw [List.getElem?_set_self (by omega)], naz.lext leC, fun i u hi hu => ?_, fun y hy => ?_⟩
            · rw [List.getElem?_set_ne (by omega)] at hu
              exact (ar7 i u hu).lext le7
            · rcases List.mem_or_eq_of_mem_set hy with hy | rfl
              · exact (th7 y hy).lext le7
              · exact (naz.lext leC).1
          refine ⟨_, rfl, _, rfl, a, sz, rfl, gC'.1, by omega, by omega, fun lt HD lt0 lt1 gD => ?_⟩
          have badD := bad.go Fo7C.1 gD
          have goD := gC'.trans gD
          refine ⟨fun σ' H' => (∃ sv : Option V, σ' = [some (.ref a), some (.int m), some (.int sz), some (.ref f), some (.int kd), some (.int at'), sv, some (.int lt), Option.none]) ∧ Go a H H' ∧ BadSt K a m f sz.toNat at'.toNat H', ?_, ?_⟩
          · refine ⟨_, rfl, _, rfl, _, _, rfl, rfl, _, rfl, ?_⟩
            refine ite2 (fun zl => ?_) (fun _ => ⟨⟨_, rfl⟩, goD, badD⟩)
            have hlt : at' < lt := of_decide_eq_true zl
            obtain ⟨ys, z', hfD, hyl, _⟩ := id badD
            refine ⟨_, rfl, _, rfl, f, ys, lt, lt.toNat, rfl, rfl, hfD, ?_, ⟨_, rfl⟩, ?_, ?_⟩
            · have e : ((lt.toNat : Nat) : Int) = lt := by omega
              rw [← e]
              exact ixN_lt (by omega)
            · refine goD.put nf0 Fo7C.1 fun c xs' hc => ?_
              obtain ⟨c', ns, i', z2, s2, n2, p1, p2⟩ := gC'.1
              obtain ⟨ys', h'⟩ := gD.3 _ _ p1
              rw [hc] at h'
              cases h'
              rw [upd_ne Fo7C.1.symm] at p1
              exact Fo7C.2.1 _ _ p1
            · exact badD.put Fo7C.1 hfD (by omega) Th.non
          · rintro σ' HE ⟨⟨sv, rfl⟩, goE, ys, z', hfE, hyl, hz', na', ar', th'⟩
            refine ⟨_, rfl, f, ys, rfl, .inl ⟨SqL.of hfE, fun t nt => ⟨_, rfl, by show 2 ≤ sizeLine; decide, fun r nr => ?_⟩⟩⟩
            have xE : Ext HE (upd (upd HE t (.tup ys)) r (.tup [.ref t, .int at'])) := (Ext.upd nt).trans (Ext.upd nr)
            have gE := Go.of_ext goE.1 xE
            have ht : (Off a (upd (upd HE t (.tup ys)) r (.tup [.ref t, .int at']))) t = some (.tup ys) := by
              rw [off_at (goE.1.ne nt).symm]
              exact Ext.upd nr _ _ upd_same
            refine k r (.ref t) (.int at') _ (goE.trans gE) upd_same ⟨Th.tup ht fun y hy => (th' y hy).ext gE.off, .inr (.inr ⟨t, ys, at'.toNat, z', rfl, ht, by omega, by congr 1; omega, hz', (na'.lext (LExt.of gE.off)).2, fun i u hi hu => (ar' i u hi hu).ext gE.off⟩)⟩
        · rintro σ' H' ⟨rfl, rfl⟩
          refine ⟨_, rfl, f, xs, rfl, .inl ⟨SqL.of hf, fun t nt => ⟨by show 2 ≤ sizeLine; decide, fun r nr => ?_⟩⟩⟩
          have xE : Ext H' (upd (upd H' t (.tup xs)) r (.tup [.ref t, .non])) := (Ext.upd nt).trans (Ext.upd nr)
          have gE := Go.of_ext pot7 xE
          have ht : (Off a (upd (upd H' t (.tup xs)) r (.tup [.ref t, .non]))) t = some (.tup xs) := by
            rw [off_at (pot7.ne nt).symm]
            exact Ext.upd nr _ _ upd_same
          obtain ⟨nf, nc, as, ll, h1, h2, h3, h4⟩ := Fo7
          rw [hf] at h1
          cases h1
          refine k r (.ref t) .non _ (go7.trans gE) upd_same ⟨Th.tup ht fun y hy => (th7 y hy).ext gE.off, .inl ⟨rfl, t, ll, rfl, ⟨as, ht, h2.mono fun b ys hb => ?_⟩, by rw [← h2.len]; omega, h3⟩⟩
          have n := pot_no pot7 hb fun _ z => nomatch z
          rw [off_at n]
          exact gE.2 _ _ n hb
end
end K9
set_option Elab.async false
set_option linter.all false
set_option maxRecDepth 100000
set_option maxHeartbeats 4000000
/-! set(a list of ints). -/
namespace K9
open PySem L2 PySem.Spec PyProof.Rows
/-- a new set without members -/
abbrev noneIn (w : World) : Obj := { cls := .type "set", dict := none, data := .set #[] 0 (.fresh 0 0 (!w.params.followText "set-order")) }
section
variable {P : Program} {w : World} {A : Around} {E : Value → Shared → Prop} {s : Shared}
/-- what is known behind set(..) of these ints -/
def SetEnd (w : World) (ns : List Int) (s : Shared) (h' : Heap) (c : Nat) : Prop := SetR w h' s.heap.objs.size (fun j => decide (j ∈ ns)) c ∧ c ≤ ns.length ∧ ∀ b o, s.heap.get? b = some o → h'.get? b = some o
theorem set_init {l : Addr} {us : Array Value} {ns : List Int} (hh : A.handled = none) (isL : s.heap.IsList l us) (iu : IntsAre us.toList ns) (room : ns.length + 1 < scanBound)
    (isS : Shared.TypeIs { s with heap := s.heap.push (noneIn w) } (.ref s.heap.objs.size) "set") :
    codeAny (model P w) A (.call (.builtin "set.__init__") ⟨[.ref s.heap.objs.size, .ref l], []⟩) (wants (fun r s2 => r = .none ∧ ∃ h' tk c, s2 = { s with heap := h', toks := tk } ∧ SetEnd w ns s h' c) E) { s with heap := s.heap.push (noneIn w) } := by
  refine codeAny_call_builtin F.called_set.init.plain F.entry_set_init (check_set_init_1 isS ?_)
  have size : us.size = ns.length := by
    have q := IntsAre.length iu
    rwa [Array.length_toList] at q
  have lS : l < s.heap.objs.size := by
    obtain ⟨ob, there, _⟩ := isL
    exact Heap.lt_size there
  obtain ⟨⟨oc, od, dt, sl⟩, there, hc, n, hd⟩ := isL
  obtain rfl : oc = .type "list" := hc
  obtain rfl : dt = .seq us n := hd
  have new : (s.heap.push (noneIn w)).get? s.heap.objs.size = some (noneIn w) := Heap.get?_push_size _ rfl
  have there' : (s.heap.push (noneIn w)).get? l = some { cls := .type "list", dict := od, data := .seq us n, slots := sl } := Heap.get?_push_of_some _ there
  have isL' : (s.heap.push (noneIn w)).IsList l us := ⟨_, there', rfl, n, rfl⟩
  have big : (s.heap.push (noneIn w)).objs.size = s.heap.objs.size + 1 := Heap.size_push ..
  have sub1 := F.sub_list_set
  have sub2 := F.sub_list_frozenset
  have nod : (Value.type "list" == Value.type "dict") = false := by decide
  unfold Builtin.«set.__init__» noKeywords Builtin.Frozenset.updateFrom
  generalize hPI : pyIter = PI
  wp_walk
  subst hPI
  refine wpAny_pyIter_list isL' (wpAny_bind (wpAny_runValue ?_))
  have hI : l ≠ (s.heap.push (noneIn w)).objs.size := by
    rw [big]
    exact Nat.ne_of_lt (Nat.lt_succ_of_lt lS)
  have out : s.heap.objs.size ∉ [(s.heap.push (noneIn w)).objs.size, l] := by
    rw [big]
    intro z
    rcases List.mem_cons.mp z with z | z
    · exact absurd z (Nat.ne_of_lt (Nat.lt_succ_self _))
    · exact absurd (List.mem_singleton.mp z) (Nat.ne_of_gt lS)
  have val : ∀ (i : Nat) (v : Value), us[i]? = some v → ∃ k t, ns[i]? = some k ∧ v = .int k t := fun i v hv => by
    have lt : i < ns.length := size ▸ (Array.getElem?_eq_some_iff.mp hv).1
    obtain ⟨t, e⟩ := PyProof.Rows.IntsAre.int_at iu i v (by rw [Array.getElem?_toList]; exact hv)
    exact ⟨ns[i], t, List.getElem?_eq_getElem lt, by rw [e, List.getD_eq_getElem?_getD, List.getElem?_eq_getElem lt] <;> rfl⟩
  have h3 : A.in1.in1.handled = none := by simp [hh]
  refine set_update_ints ((Walks.list h3 _ l hI us).toS) s.heap.objs.size out ns size room val (us.size - 0) 0 _ (by omega) (Nat.zero_le _) ?st ?first ?_
  case st => exact ⟨⟨_, Heap.get?_push_size _ rfl, rfl, rfl⟩, isL'.push _⟩
  case first => exact ⟨0, Nat.le_refl 0, setR_new_at (Heap.get?_push_of_some _ new)⟩
  intro s' c moved hc R
  rcases s' with ⟨h', g2, d', tk', os'⟩
  obtain rfl : g2 = s.gens := moved.gens
  obtain rfl : d' = s.drawn := moved.drawn
  obtain rfl : os' = s.os := moved.os
  show wpAny _ _ _ _ _ _
  refine wpAny_pure ?_
  show wpAny _ _ (ret Value.none) _ _ _
  refine wpAny_pure ⟨rfl, h', tk', c, rfl, R, by omega, fun b o e => ?_⟩
  have lt := Heap.lt_size e
  refine moved.heap b o (fun z => ?_) (Heap.get?_push_of_some _ (Heap.get?_push_of_some _ e))
  rcases List.mem_cons.mp z with z | z
  · exact absurd z (Nat.ne_of_lt lt)
  · have z := List.mem_singleton.mp z
    rw [big] at z
    exact absurd z (Nat.ne_of_lt (Nat.lt_succ_of_lt lt))
theorem call_set_ints {l : Addr} {us : Array Value} {ns : List Int} {Q : Value → Shared → Prop} (hh : A.handled = none) (isL : s.heap.IsList l us) (iu : IntsAre us.toList ns) (room : ns.length + 1 < scanBound)
    (h : ∀ (h' : Heap) (tk c : Nat), SetEnd w ns s h' c → Q (.ref s.heap.objs.size) { s with heap := h', toks := tk }) : wpAny (model P w) A (call (.type "set") [.ref l]) Q E s := by
  obtain ⟨cl, tl, mro⟩ := F.called_set.mro
  have made := F.called_set.made
  have sub := F.called_set.sub
  refine wpAny_call (codeAny_of_tree ?_)
  show wpAny _ _ (callAny (.type "set") _) _ _ _
  refine wpAny_pure ⟨Code.quiet_builtin _ (by decide +kernel), codeAny_builtin F.entry_type_call ?_⟩
  rw [Around.under_plain (weight_type_call_type "set" [.ref l] []) rfl]
  have nt := F.called_set.notType
  have can := F.called_set.canCreate
  have tc := F.typeCall_set_1 (.ref l)
  repeat (any_goals (first | assumption | wp_step))
  refine codeAny_mono (code_set_led1 (.ref l) (E := E) (Q₁ := fun ob s1 => ob = .ref s.heap.objs.size ∧ s1 = { s with heap := s.heap.push (noneIn w) }) ⟨rfl, rfl⟩) ?_
  intro r s1 hr
  match r, hr with
  | .error e, hr => exact hr
  | .ok (.ret ob), hr =>
    obtain ⟨rfl, rfl⟩ := hr
    have isS : Shared.TypeIs { s with heap := s.heap.push (noneIn w) } (.ref s.heap.objs.size) "set" := ⟨_, Heap.get?_push_size _ rfl, rfl⟩
    have il := F.called_set.init.lookup
    have ib := F.called_set.init.bind (.ref s.heap.objs.size)
    repeat (any_goals (first | assumption | wp_step))
    refine codeAny_mono (set_init (E := E) (by first | exact hh | simpa using hh) isL iu room isS) ?_
    intro r2 s2 hr2
    match r2, hr2 with
    | .error e, hr2 => exact hr2
    | .ok (.ret v), hr2 =>
      obtain ⟨rfl, h', tk, c, rfl, z⟩ := hr2
      repeat (any_goals (first | assumption | wp_step))
      exact h _ _ _ z
    | .ok .next, hr2 => exact hr2.elim
    | .ok .brk, hr2 => exact hr2.elim
    | .ok .cont, hr2 => exact hr2.elim
  | .ok .next, hr => exact hr.elim
  | .ok .brk, hr => exact hr.elim
  | .ok .cont, hr => exact hr.elim
end
/-- set(xs), xs a list of ints -/
def rSetOf (K : PySem.W.Frag) (w : World) : List V → Hp → VK → Prop := fun xs H Q => ∃ (l : Addr) (ns : List Int), xs = [.ref l] ∧ SqL K H l (ns.map V.int) ∧ ns.length < 64 ∧
  ∀ (p : Addr) (n : Nat), H p = Option.none → n ≤ ns.length → Q (.ref p) (upd H p (SetO w p (fun j => decide (j ∈ ns)) n))
theorem cr_setOf {X : Cx} (hc : X.calm = true) : CallR X (.type "set") (rSetOf X.K X.w) := by
  rintro pins s σ H xs us Q I r ⟨l, ns, rfl, hl, h64, q⟩
  obtain ⟨its, rv, pl, _⟩ := I.list hl
  rw [Vals.ref1 r]
  refine call_set_ints (I.ok.hd hc) pl.isList (intsAre_of rv) (by unfold scanBound; omega) fun h' tk c z => ?_
  exact ⟨.ref s.heap.objs.size, _, I.laid (t' := tk) z.2.2 (Nat.le_refl _) (setO_new z.1), rfl, q _ _ (I.hok.fresh (Nat.le_refl _)) z.2.1⟩
end K9
set_option linter.all false
/-! The mathematics of parts: two ways of labelling the places of a web give the same labels. -/
namespace K9M
abbrev Ar := List (Nat × Nat)
def mn (i j : Int) : Int := if j < i then j else i
def mx (i j : Int) : Int := if j > i then j else i
/-- parts' own step: the greater label gone, the lesser one kept -/
def step1 (f : Nat → Int) (a : Nat × Nat) : Nat → Int := fun i => if f i = mx (f a.1) (f a.2) then mn (f a.1) (f a.2) else f i
def step2 (f : Nat → Int) (a : Nat × Nat) : Nat → Int := fun i => if i = a.2 then mn (f a.1) (f a.2) else if i = a.1 then mn (f a.1) (f a.2) else f i
def own : Nat → Int := fun i => (i : Int)
def fin1 (A : Ar) : Nat → Int := A.foldl step1 own
def round (A : Ar) (f : Nat → Int) : Nat → Int := A.foldl step2 f
def rounds (A : Ar) : Nat → Nat → Int
  | 0 => own
  | k + 1 => round A (rounds A k)
def Closed (A : Ar) (g : Nat → Int) : Prop := ∀ a ∈ A, g a.1 = g a.2
def Inside (m : Nat) (A : Ar) : Prop := ∀ a ∈ A, a.1 < m ∧ a.2 < m
/-- labels are places no greater, which closed labellings do not tell apart -/
structure Good (m : Nat) (A : Ar) (f : Nat → Int) : Prop where
  lo : ∀ i, i < m → 0 ≤ f i
  hi : ∀ i, i < m → f i ≤ (i : Int)
  same : ∀ g, Closed A g → ∀ i, i < m → g (f i).toNat = g i
theorem own_good (m : Nat) (A : Ar) : Good m A own := ⟨fun i _ => Int.natCast_nonneg i, fun i _ => Int.le_refl _, fun g _ i _ => by unfold own; rw [Int.toNat_natCast]⟩
theorem mn_cases (i j : Int) : (mn i j = i ∧ mx i j = j ∧ i ≤ j) ∨ (mn i j = j ∧ mx i j = i ∧ j ≤ i) := by
  unfold mn mx
  by_cases h : j < i
  · rw [if_pos h, if_neg (by omega)]
    exact .inr ⟨rfl, rfl, by omega⟩
  · rw [if_neg h]
    by_cases h2 : j > i
    · rw [if_pos h2]
      exact .inl ⟨rfl, rfl, by omega⟩
    · rw [if_neg h2]
      have : i = j := by omega
      exact .inl ⟨rfl, this, by omega⟩
theorem step1_good {m : Nat} {A : Ar} {f : Nat → Int} (hA : Inside m A) (G : Good m A f) {a : Nat × Nat} (ha : a ∈ A) : Good m A (step1 f a) := by
  obtain ⟨h1, h2⟩ := hA a ha
  have key : ∀ i, i < m → f i = mx (f a.1) (f a.2) → 0 ≤ mn (f a.1) (f a.2) ∧ mn (f a.1) (f a.2) ≤ f i ∧ ∀ g, Closed A g → g (mn (f a.1) (f a.2)).toNat = g (f i).toNat := by
    intro i hi e
    have e1 := G.same
    rcases mn_cases (f a.1) (f a.2) with ⟨k, g, l⟩ | ⟨k, g, l⟩
    · rw [k]
      rw [g] at e
      refine ⟨G.lo _ h1, by omega, fun c hc => ?_⟩
      rw [e, e1 c hc _ h1, e1 c hc _ h2]
      exact hc a ha
    · rw [k]
      rw [g] at e
      refine ⟨G.lo _ h2, by omega, fun c hc => ?_⟩
      rw [e, e1 c hc _ h1, e1 c hc _ h2]
      exact (hc a ha).symm
  refine ⟨fun i hi => ?_, fun i hi => ?_, fun g hg i hi => ?_⟩
  all_goals unfold step1
  all_goals by_cases e : f i = mx (f a.1) (f a.2)
  · rw [if_pos e]; exact (key i hi e).1
  · rw [if_neg e]; exact G.lo i hi
  · rw [if_pos e]; have := (key i hi e).2.1; have := G.hi i hi; omega
  · rw [if_neg e]; exact G.hi i hi
  · rw [if_pos e, (key i hi e).2.2 g hg]; exact G.same g hg i hi
  · rw [if_neg e]; exact G.same g hg i hi
theorem step2_good {m : Nat} {A : Ar} {f : Nat → Int} (hA : Inside m A) (G : Good m A f) {a : Nat × Nat} (ha : a ∈ A) : Good m A (step2 f a) := by
  obtain ⟨h1, h2⟩ := hA a ha
  have l1 := G.lo _ h1
  have l2 := G.lo _ h2
  have u1 := G.hi _ h1
  have u2 := G.hi _ h2
  have s : ∀ g, Closed A g → g (mn (f a.1) (f a.2)).toNat = g a.1 ∧ g (mn (f a.1) (f a.2)).toNat = g a.2 := by
    intro g hg
    have z := hg a ha
    rcases mn_cases (f a.1) (f a.2) with ⟨k, _, _⟩ | ⟨k, _, _⟩
    · rw [k, G.same g hg _ h1]; exact ⟨rfl, z⟩
    · rw [k, G.same g hg _ h2]; exact ⟨z.symm, rfl⟩
  have b : 0 ≤ mn (f a.1) (f a.2) ∧ mn (f a.1) (f a.2) ≤ f a.1 ∧ mn (f a.1) (f a.2) ≤ f a.2 := by
    rcases mn_cases (f a.1) (f a.2) with ⟨k, _, l⟩ | ⟨k, _, l⟩ <;> rw [k] <;> omega
  refine ⟨fun i hi => ?_, fun i hi => ?_, fun g hg i hi => ?_⟩
  all_goals unfold step2
  all_goals by_cases e2 : i = a.2
  · rw [if_pos e2]; exact b.1
  · rw [if_neg e2]
    by_cases e1 : i = a.1
    · rw [if_pos e1]; exact b.1
    · rw [if_neg e1]; exact G.lo i hi
  · rw [if_pos e2, e2]; omega
  · rw [if_neg e2]
    by_cases e1 : i = a.1
    · rw [if_pos e1, e1]; omega
    · rw [if_neg e1]; exact G.hi i hi
  · rw [if_pos e2, e2]; exact (s g hg).2
  · rw [if_neg e2]
    by_cases e1 : i = a.1
    · rw [if_pos e1, e1]; exact (s g hg).1
    · rw [if_neg e1]; exact G.same g hg i hi
theorem fold_good {m : Nat} {A : Ar} {st : (Nat → Int) → Nat × Nat → Nat → Int} (h : ∀ f, Good m A f → ∀ a ∈ A, Good m A (st f a)) : ∀ (B : Ar) (f : Nat → Int), (∀ a ∈ B, a ∈ A) → Good m A f → Good m A (B.foldl st f)
  | [], f, _, G => G
  | a :: B, f, hB, G => fold_good h B (st f a) (fun b hb => hB b (List.mem_cons_of_mem _ hb)) (h f G a (hB a List.mem_cons_self))
theorem fin1_good {m : Nat} {A : Ar} (hA : Inside m A) : Good m A (fin1 A) := fold_good (fun f G a ha => step1_good hA G ha) A own (fun _ h => h) (own_good m A)
theorem fold1_same : ∀ (B : Ar) (f : Nat → Int) (p q : Nat), f p = f q → (B.foldl step1 f) p = (B.foldl step1 f) q
  | [], f, p, q, h => h
  | a :: B, f, p, q, h => fold1_same B (step1 f a) p q (by unfold step1; rw [h])
theorem fold1_closed : ∀ (B : Ar) (f : Nat → Int), Closed B (B.foldl step1 f)
  | [], f => fun a ha => by cases ha
  | a :: B, f => fun b hb => by
    rcases List.mem_cons.mp hb with rfl | hb
    · refine fold1_same B _ _ _ ?_
      unfold step1
      rcases mn_cases (f b.1) (f b.2) with ⟨k, g, l⟩ | ⟨k, g, l⟩
      · rw [k, g, if_pos rfl]
        by_cases e : f b.1 = f b.2
        · rw [if_pos e]
        · rw [if_neg e]
      · rw [k, g, if_pos rfl]
        by_cases e : f b.2 = f b.1
        · rw [if_pos e]
        · rw [if_neg e]
    · exact fold1_closed B (step1 f a) b hb
theorem fin1_closed (A : Ar) : Closed A (fin1 A) := fold1_closed A own
theorem fin1_idem {m : Nat} {A : Ar} (hA : Inside m A) {i : Nat} (hi : i < m) : fin1 A (fin1 A i).toNat = fin1 A i := (fin1_good hA).same _ (fin1_closed A) i hi
/-! ### the rounds come to the same labels -/
theorem good_ge {m : Nat} {A : Ar} (hA : Inside m A) {f : Nat → Int} (G : Good m A f) {i : Nat} (hi : i < m) : fin1 A i ≤ f i := by
  have h := G.same _ (fin1_closed A) i hi
  have l := G.lo i hi
  have u := G.hi i hi
  have k := (fin1_good hA).hi (f i).toNat (by omega)
  omega
theorem step2_le (f : Nat → Int) (a : Nat × Nat) (i : Nat) : step2 f a i ≤ f i := by
  unfold step2
  by_cases e2 : i = a.2
  · rw [if_pos e2, e2]
    rcases mn_cases (f a.1) (f a.2) with ⟨k, _, l⟩ | ⟨k, _, l⟩ <;> rw [k] <;> omega
  · rw [if_neg e2]
    by_cases e1 : i = a.1
    · rw [if_pos e1, e1]
      rcases mn_cases (f a.1) (f a.2) with ⟨k, _, l⟩ | ⟨k, _, l⟩ <;> rw [k] <;> omega
    · rw [if_neg e1]; exact Int.le_refl _
theorem fold2_le : ∀ (B : Ar) (f : Nat → Int) (i : Nat), (B.foldl step2 f) i ≤ f i
  | [], f, i => Int.le_refl _
  | a :: B, f, i => Int.le_trans (fold2_le B (step2 f a) i) (step2_le f a i)
theorem fold2_good {m : Nat} {A : Ar} (hA : Inside m A) (B : Ar) (hB : ∀ a ∈ B, a ∈ A) {f : Nat → Int} (G : Good m A f) : Good m A (B.foldl step2 f) := fold_good (fun f G a ha => step2_good hA G ha) B f hB G
theorem stays {m : Nat} {A : Ar} (hA : Inside m A) (B : Ar) (hB : ∀ a ∈ B, a ∈ A) {f : Nat → Int} (G : Good m A f) {i : Nat} (hi : i < m) (e : f i = fin1 A i) : (B.foldl step2 f) i = fin1 A i := by
  have h1 := fold2_le B f i
  have h2 := good_ge hA (fold2_good hA B hB G) hi
  omega
theorem spreads {m : Nat} {A : Ar} (hA : Inside m A) : ∀ (B : Ar), (∀ a ∈ B, a ∈ A) → ∀ (f : Nat → Int), Good m A f → ∀ a ∈ B, (f a.1 = fin1 A a.1 ∨ f a.2 = fin1 A a.2) → (B.foldl step2 f) a.1 = fin1 A a.1 ∧ (B.foldl step2 f) a.2 = fin1 A a.2
  | [], _, _, _, a, ha, _ => by cases ha
  | b :: B, hB, f, G, a, ha, e => by
    have hb : b ∈ A := hB b List.mem_cons_self
    have hB' : ∀ a ∈ B, a ∈ A := fun x hx => hB x (List.mem_cons_of_mem _ hx)
    have G' := step2_good hA G hb
    rcases List.mem_cons.mp ha with rfl | ha
    · obtain ⟨h1, h2⟩ := hA a hb
      have c := fin1_closed A a hb
      have g1 := good_ge hA G h1
      have g2 := good_ge hA G h2
      have v : mn (f a.1) (f a.2) = fin1 A a.1 := by
        rcases mn_cases (f a.1) (f a.2) with ⟨k, _, l⟩ | ⟨k, _, l⟩ <;> rw [k] <;> omega
      have e1 : step2 f a a.1 = fin1 A a.1 := by
        unfold step2
        by_cases z : a.1 = a.2
        · rw [if_pos z, v]
        · rw [if_neg z, if_pos rfl, v]
      have e2 : step2 f a a.2 = fin1 A a.2 := by
        unfold step2
        rw [if_pos rfl, v, c]
      exact ⟨stays hA B hB' G' h1 e1, stays hA B hB' G' h2 e2⟩
    · obtain ⟨h1, h2⟩ := hA a (hB' a ha)
      refine spreads hA B hB' (step2 f b) G' a ha ?_
      have q : ∀ i, i < m → f i = fin1 A i → step2 f b i = fin1 A i := fun i hi e => by
        have := step2_le f b i
        have := good_ge hA G' hi
        omega
      exact e.imp (q _ h1) (q _ h2)
theorem border {m : Nat} {A : Ar} (hA : Inside m A) {f : Nat → Int} (G : Good m A f) {i : Nat} (hi : i < m) (ne : f i ≠ fin1 A i) : ∃ a ∈ A, (f a.1 = fin1 A a.1 ∧ f a.2 ≠ fin1 A a.2) ∨ (f a.1 ≠ fin1 A a.1 ∧ f a.2 = fin1 A a.2) := by
  refine Classical.byContradiction fun no => ne ?_
  have cl : Closed A (fun j => if f j = fin1 A j then 1 else 0) := by
    intro a ha
    show (if f a.1 = fin1 A a.1 then (1 : Int) else 0) = if f a.2 = fin1 A a.2 then 1 else 0
    by_cases h1 : f a.1 = fin1 A a.1 <;> by_cases h2 : f a.2 = fin1 A a.2
    · rw [if_pos h1, if_pos h2]
    · exact absurd ⟨a, ha, .inl ⟨h1, h2⟩⟩ no
    · exact absurd ⟨a, ha, .inr ⟨h1, h2⟩⟩ no
    · rw [if_neg h1, if_neg h2]
  have L := fin1_good hA
  have z := L.same _ cl i hi
  have l := L.lo i hi
  have u := L.hi i hi
  have idem := fin1_idem hA hi
  have hc : (fin1 A i).toNat < m := by omega
  have right : f (fin1 A i).toNat = fin1 A (fin1 A i).toNat := by
    have h1 := G.hi _ hc
    have h2 := good_ge hA G hc
    omega
  have z' : (if f (fin1 A i).toNat = fin1 A (fin1 A i).toNat then (1 : Int) else 0) = if f i = fin1 A i then 1 else 0 := z
  rw [if_pos right] at z'
  by_cases h : f i = fin1 A i
  · exact h
  · rw [if_neg h] at z'
    cases z'
theorem count_lt {p q : Nat → Bool} : ∀ (l : List Nat), (∀ x ∈ l, p x = true → q x = true) → (∃ x ∈ l, q x = true ∧ p x = false) → l.countP p < l.countP q
  | [], _, ⟨x, hx, _⟩ => by cases hx
  | a :: l, h, ⟨x, hx, hq, hp⟩ => by
    have mono : l.countP p ≤ l.countP q := List.countP_mono_left fun y hy z => h y (List.mem_cons_of_mem _ hy) z
    rw [List.countP_cons, List.countP_cons]
    rcases List.mem_cons.mp hx with rfl | hx
    · rw [hq, hp]
      simp
      omega
    · have ih := count_lt l (fun y hy z => h y (List.mem_cons_of_mem _ hy) z) ⟨x, hx, hq, hp⟩
      have ha := h a List.mem_cons_self
      cases e : p a with
      | true => rw [ha e]; simp; omega
      | false => cases q a <;> simp <;> omega
def wrong (m : Nat) (A : Ar) (f : Nat → Int) : Nat := (List.range m).countP fun i => decide (f i ≠ fin1 A i)
theorem round_less {m : Nat} {A : Ar} (hA : Inside m A) {f : Nat → Int} (G : Good m A f) (h : 0 < wrong m A f) : wrong m A (round A f) < wrong m A f := by
  obtain ⟨i, hi, ne⟩ := List.countP_pos_iff.mp h
  have hi' := List.mem_range.mp hi
  obtain ⟨a, ha, b⟩ := border hA G hi' (of_decide_eq_true ne)
  obtain ⟨h1, h2⟩ := hA a ha
  have sp := spreads hA A (fun _ h => h) f G a ha (b.imp (fun x => x.1) (fun x => x.2))
  refine count_lt _ (fun x hx z => ?_) ?_
  · have z := of_decide_eq_true z
    exact decide_eq_true fun e => z (stays hA A (fun _ h => h) G (List.mem_range.mp hx) e)
  · rcases b with ⟨_, b⟩ | ⟨b, _⟩
    · exact ⟨a.2, List.mem_range.mpr h2, decide_eq_true b, decide_eq_false fun z => z sp.2⟩
    · exact ⟨a.1, List.mem_range.mpr h1, decide_eq_true b, decide_eq_false fun z => z sp.1⟩
theorem round_zero {m : Nat} {A : Ar} (hA : Inside m A) {f : Nat → Int} (G : Good m A f) (h : wrong m A f = 0) : wrong m A (round A f) = 0 := by
  unfold wrong at *
  rw [List.countP_eq_zero] at *
  intro i hi z
  exact (of_decide_eq_true z) (stays hA A (fun _ h => h) G (List.mem_range.mp hi) (Classical.byContradiction fun ne => h i hi (decide_eq_true ne)))
theorem rounds_good {m : Nat} {A : Ar} (hA : Inside m A) : ∀ k, Good m A (rounds A k)
  | 0 => own_good m A
  | k + 1 => fold2_good hA A (fun _ h => h) (rounds_good hA k)
theorem rounds_wrong {m : Nat} {A : Ar} (hA : Inside m A) : ∀ k, wrong m A (rounds A k) = 0 ∨ wrong m A (rounds A k) + k ≤ m
  | 0 => .inr (by
    have h : (List.range m).countP (fun i => decide (own i ≠ fin1 A i)) ≤ (List.range m).length := List.countP_le_length
    rw [List.length_range] at h
    exact h)
  | k + 1 => by
    have G := rounds_good hA k
    by_cases z : wrong m A (rounds A k) = 0
    · exact .inl (round_zero hA G z)
    · have l := round_less hA G (Nat.pos_of_ne_zero z)
      rcases rounds_wrong hA k with h | h
      · exact absurd h z
      · right
        show wrong m A (round A (rounds A k)) + (k + 1) ≤ m
        omega
/-- the law's marks are parts' own -/
theorem rounds_are {m : Nat} {A : Ar} (hA : Inside m A) {i : Nat} (hi : i < m) : rounds A m i = fin1 A i := by
  have w : wrong m A (rounds A m) = 0 := by
    rcases rounds_wrong hA m with h | h
    · exact h
    · omega
  refine Classical.byContradiction fun ne => ?_
  unfold wrong at w
  rw [List.countP_eq_zero] at w
  exact w i (List.mem_range.mpr hi) (decide_eq_true ne)
/-! ### the lots -/
theorem same_of_mem : ∀ {l k : List Int}, l.Pairwise (· < ·) → k.Pairwise (· < ·) → (∀ x, x ∈ l ↔ x ∈ k) → l = k
  | [], [], _, _, _ => rfl
  | [], y :: k, _, _, h => by have := (h y).mpr List.mem_cons_self; cases this
  | x :: l, [], _, _, h => by have := (h x).mp List.mem_cons_self; cases this
  | x :: l, y :: k, hl, hk, h => by
    have hl' := List.pairwise_cons.mp hl
    have hk' := List.pairwise_cons.mp hk
    have e : x = y := by
      rcases List.mem_cons.mp ((h x).mp List.mem_cons_self) with e | e
      · exact e
      · rcases List.mem_cons.mp ((h y).mpr List.mem_cons_self) with e2 | e2
        · exact e2.symm
        · have a := hk'.1 x e
          have b := hl'.1 y e2
          omega
    subst e
    have : l = k := same_of_mem hl'.2 hk'.2 fun z => ⟨fun hz => by
      rcases List.mem_cons.mp ((h z).mp (List.mem_cons_of_mem _ hz)) with e | e
      · have := hl'.1 z hz; omega
      · exact e, fun hz => by
      rcases List.mem_cons.mp ((h z).mpr (List.mem_cons_of_mem _ hz)) with e | e
      · have := hk'.1 z hz; omega
      · exact e⟩
    rw [this]
/-- the places with this label -/
def lot (m : Nat) (f : Nat → Int) (c : Int) : List Int := ((List.range m).filter fun i => decide (f i = c)).map fun i : Nat => (i : Int)
/-- the places that are their own label -/
def heads (m : Nat) (f : Nat → Int) : List Int := ((List.range m).filter fun i => decide (f i = (i : Int))).map fun i : Nat => (i : Int)
def lots (m : Nat) (A : Ar) : List (List Int) := (heads m (fin1 A)).map (lot m (fin1 A))
theorem range_sorted : ∀ (m : Nat), (List.range m).Pairwise (· < ·) := fun m => List.pairwise_lt_range
theorem heads_sorted (m : Nat) (f : Nat → Int) : (heads m f).Pairwise (· < ·) := by
  unfold heads
  rw [List.pairwise_map]
  exact (List.Pairwise.sublist List.filter_sublist (range_sorted m)).imp fun h => by omega
theorem marks_heads {m : Nat} {A : Ar} (hA : Inside m A) {S : List Int} (hs : S.Pairwise (· < ·)) (hm : ∀ k, k ∈ S ↔ ∃ i, i < m ∧ rounds A m i = k) : S = heads m (fin1 A) := by
  refine same_of_mem hs (heads_sorted m _) fun k => ?_
  rw [hm]
  unfold heads
  rw [List.mem_map]
  have L := fin1_good hA
  constructor
  · rintro ⟨i, hi, rfl⟩
    rw [rounds_are hA hi]
    have l := L.lo i hi
    have u := L.hi i hi
    refine ⟨(fin1 A i).toNat, List.mem_filter.mpr ⟨List.mem_range.mpr (by omega), decide_eq_true ?_⟩, by omega⟩
    rw [fin1_idem hA hi]
    omega
  · rintro ⟨i, hi, rfl⟩
    obtain ⟨h1, h2⟩ := List.mem_filter.mp hi
    have h1 := List.mem_range.mp h1
    exact ⟨i, h1, by rw [rounds_are hA h1]; exact of_decide_eq_true h2⟩
theorem lot_same {m : Nat} {A : Ar} (hA : Inside m A) (c : Int) : lot m (rounds A m) c = lot m (fin1 A) c := by
  unfold lot
  congr 1
  refine List.filter_congr fun i hi => ?_
  rw [rounds_are hA (List.mem_range.mp hi)]
end K9M
set_option Elab.async false
set_option linter.all false
set_option maxRecDepth 100000
set_option maxHeartbeats 4000000
/-! parts and the law's own parts. -/
namespace K9
open PySem L2 K9M
abbrev sParts : Stmt := top 16
abbrev sLParts : Stmt := top 28
/-- the labels of the places as a list -/
def lab (M : Nat) (f : Nat → Int) : List V := (List.range M).map fun i => V.int (f i)
theorem lab_len {M : Nat} {f : Nat → Int} : (lab M f).length = M := by
  unfold lab
  rw [List.length_map, List.length_range]
theorem lab_get {M : Nat} {f : Nat → Int} {i : Nat} (h : i < M) : (lab M f)[i]? = some (V.int (f i)) := by
  unfold lab
  rw [List.getElem?_map, List.getElem?_range h]
  rfl
theorem lab_at {M : Nat} {f : Nat → Int} {i : Nat} {z : Int} (h : i < M) (e : z = (i : Int)) : atI (lab M f) z = some (V.int (f i)) := at_of e (lab_get h)
theorem lab_set {M : Nat} {f : Nat → Int} {p : Nat} {k : Int} : (lab M f).set p (V.int k) = lab M (fun i => if i = p then k else f i) := by
  apply List.ext_getElem?
  intro i
  by_cases h : i < M
  · rw [lab_get h]
    by_cases e : i = p
    · subst e
      rw [List.getElem?_set_self (by rw [lab_len]; exact h), if_pos rfl]
    · rw [List.getElem?_set_ne (fun z => e z.symm), lab_get h, if_neg e]
  · rw [List.getElem?_eq_none (by rw [List.length_set, lab_len]; omega), List.getElem?_eq_none (by rw [lab_len]; omega)]
theorem lab_take {M : Nat} {f : Nat → Int} {j : Nat} (h : j < M) : (lab M f).take (j + 1) = (lab M f).take j ++ [V.int (f j)] := by
  rw [List.take_succ, lab_get h]
  rfl
theorem lab_own {M : Nat} : rgV 0 (M : Int) = lab M own := by
  unfold rgV lab own
  have e : ((M : Int) - 0).toNat = M := by omega
  rw [e]
  congr 1
  funext i
  rw [Int.zero_add]
def arL (a : Nat × Nat) : List Int := [(a.1 : Int), (a.2 : Int)]
/-- of arrows, the i-th one -/
theorem TT.arrow {H : Hp} {as : List Addr} {A : Ar} (h : PT2 H as (A.map arL)) {i : Nat} {x : V} (hx : (as.map V.ref)[i]? = some x) : ∃ (c : Addr) (a : Nat × Nat), x = .ref c ∧ A[i]? = some a ∧ H c = some (.tup [.int (a.1 : Int), .int (a.2 : Int)]) := by
  rw [List.getElem?_map] at hx
  cases e : as[i]? with
  | none => rw [e] at hx; cases hx
  | some c =>
    rw [e] at hx
    cases hx
    obtain ⟨l, hl, hc⟩ := h.get e
    rw [List.getElem?_map] at hl
    cases e2 : A[i]? with
    | none => rw [e2] at hl; cases hl
    | some a =>
      rw [e2] at hl
      cases hl
      exact ⟨c, a, rfl, rfl, hc⟩
theorem fold_take {α β : Type} {st : β → α → β} {l : List α} {i : Nat} {a : α} {b : β} (h : l[i]? = some a) : (l.take (i + 1)).foldl st b = st ((l.take i).foldl st b) a := by
  rw [List.take_succ, h, List.foldl_append]
  rfl
/-- the lots of the first places -/
def lotsTo (M : Nat) (f : Nat → Int) (i : Nat) : List (List Int) := (((List.range i).filter fun c => decide (f c = (c : Int))).map fun c : Nat => (c : Int)).map (lot M f)
theorem lotsTo_all (M : Nat) (A : Ar) : lotsTo M (fin1 A) M = lots M A := rfl
theorem lotsTo_succ (M : Nat) (f : Nat → Int) (i : Nat) : lotsTo M f (i + 1) = if f i = (i : Int) then lotsTo M f i ++ [lot M f (i : Int)] else lotsTo M f i := by
  unfold lotsTo
  rw [List.range_succ, List.filter_append]
  by_cases h : f i = (i : Int)
  · rw [if_pos h, List.filter_cons_of_pos (by simpa using h)]
    simp
  · rw [if_neg h, List.filter_cons_of_neg (by simpa using h)]
    simp
/-- the places of a label, up to the j-th -/
def lotTo (f : Nat → Int) (c : Int) (j : Nat) : List V := ((List.range j).filter fun i => decide (f i = c)).map fun i : Nat => V.int (i : Int)
theorem lotTo_all (M : Nat) (f : Nat → Int) (c : Int) : lotTo f c M = (lot M f c).map V.int := by
  unfold lotTo lot
  rw [List.map_map]
  rfl
theorem lotTo_succ (f : Nat → Int) (c : Int) (j : Nat) : lotTo f c (j + 1) = if f j = c then lotTo f c j ++ [V.int (j : Int)] else lotTo f c j := by
  unfold lotTo
  rw [List.range_succ, List.filter_append]
  by_cases h : f j = c
  · rw [if_pos h, List.filter_cons_of_pos (by simpa using h)]
    simp
  · rw [if_neg h, List.filter_cons_of_neg (by simpa using h)]
    simp
theorem lotTo_len (f : Nat → Int) (c : Int) (j : Nat) : (lotTo f c j).length ≤ j := by
  unfold lotTo
  rw [List.length_map]
  exact Nat.le_trans (List.length_filter_le _ _) (by rw [List.length_range]; exact Nat.le_refl _)
def spParts (CW : Addr) : Sp := fun vs H Q _ => ∃ (p b : Addr) (M : Nat) (A : Ar), vs = [.ref p] ∧ WebAt CW H p (M : Int) b ∧ TT H b (A.map arL) ∧ M ≤ 8 ∧ A.length ≤ 12 ∧ Inside M A ∧ ∀ (r : Addr) (H' : Hp), Ext H H' → TT H' r (lots M A) → Q (.ref r) H'
def spLParts : Sp := fun vs H Q _ => ∃ (b : Addr) (M : Nat) (A : Ar), vs = [.int (M : Int), .ref b] ∧ TT H b (A.map arL) ∧ M ≤ 8 ∧ A.length ≤ 12 ∧ Inside M A ∧ ∀ (r : Addr) (H' : Hp), Ext H H' → TT H' r (lots M A) → Q (.ref r) H'
section
variable {P : Program} {w : World} {K : PySem.W.Frag} {mg : Str → Option Value} {base : Heap}
theorem scParts : FnScope ["web", "leasts", "begin", "end", "kept", "gone", "least", "lots", "place"] ["web"] (defScope sParts) := ⟨rfl, rfl, rfl, by decide +kernel, rfl, by decide +kernel, by decide +kernel⟩
theorem ok_parts {f CW : Addr} {fd : FuncData} (F : L2.Fun K "parts" "parts" sParts f fd) (T : Gb mg) (W : WebC K mg CW) : FnOk P w K mg base CX0 1 f fd ["web"] (spParts CW) := by
  refine F.ok scParts (fun vs H Q E h => ?_) (fun cdv A outer s H vs Q E hr h => ?_)
  · obtain ⟨p, b, M, A, rfl, _⟩ := h
    rfl
  · obtain ⟨p, b, M, Ars, rfl, ⟨dx, hp⟩, ⟨as, hb, pt⟩, hM, hL, ins, k⟩ := h
    refine ⟨_, pss_cons (ps_set (i := 1) scParts.nd rfl (Or.inr rfl) (pe_listRg rfl (by rfl) T.list (prg_1 (by rfl) T.rng (pe_fld (pv 0) rfl))))
      (pss_cons (ps_for PassesOwn.never rfl (pi_tup (pe_fld (pv 0) rfl)) (pg_tup rfl (pgs_cons (pg_name (i := 2) scParts.nd rfl (Or.inl rfl)) (pgs_cons (pg_name (i := 3) scParts.nd rfl (Or.inl rfl)) pgs_nil)))
        (pss_cons (ps_set (i := 4) scParts.nd rfl (Or.inr rfl) (pe_callB (call_min2 rfl) (by rfl) T.min (by decide +kernel) (pa_cons (pe_ix ix_list (pv 1) (pv 2) (fun _ _ => rfl)) (pa_cons (pe_ix ix_list (pv 1) (pv 3) (fun _ _ => rfl)) pa_nil))))
        (pss_cons (ps_set (i := 5) scParts.nd rfl (Or.inr rfl) (pe_callB (call_max2 rfl) (by rfl) T.max (by decide +kernel) (pa_cons (pe_ix ix_list (pv 1) (pv 2) (fun _ _ => rfl)) (pa_cons (pe_ix ix_list (pv 1) (pv 3) (fun _ _ => rfl)) pa_nil))))
        (pss_one (ps_set (i := 1) scParts.nd rfl (Or.inr rfl) (pe_lc (own := [("least", 6)]) (g := gName 6) (tt := tYes) rfl scParts.nd (pi_list (pv 1)) (blkOk_by (N := ["web", "leasts", "begin", "end", "kept", "gone", "least", "lots", "place"]) (sc := defScope sParts) (by decide +kernel))
          (fun _ _ _ _ _ => pg_name (i := 6) scParts.nd rfl (Or.inl rfl)) (fun _ _ _ _ _ => pts_nil) (fun _ _ _ _ _ => pe_ifExp (pt_cmpR op_eq (pv 6) (pv 5) (nomark _)) (pv 4) (pv 6))))))))
      (pss_cons (ps_set (i := 7) scParts.nd rfl (Or.inl rfl) (pe_lst pa_nil))
      (pss_cons (ps_for PassesOwn.never rfl (pi_range1 (by rfl) T.rng (pa_cons (pe_fld (pv 0) rfl) pa_nil)) (pg_name (i := 6) scParts.nd rfl (Or.inr rfl))
        (pss_one (ps_if (pt_cmpR op_eq (pe_ix ix_list (pv 1) (pv 6) (fun _ _ => rfl)) (pv 6) (nomark _))
          (pss_one (ps_expr (pe_bm PySem.F.plainAttrs_list PySem.F.slot_list_append PySem.F.type_list_append mt_append (pv 7) (pa_cons (pe_callTy call_tuple_of (by rfl) T.tup (by decide +kernel) (pa_cons (pe_lc (own := [("place", 8)]) (g := gName 8) (tt := tTest (tOp rEq (tOp (rIxL K) (tVar 1) (tVar 8)) (tVar 6))) rfl scParts.nd (pi_range1 (by rfl) T.rng (pa_cons (pe_fld (pv 0) rfl) pa_nil))
            (blkOk_by (N := ["web", "leasts", "begin", "end", "kept", "gone", "least", "lots", "place"]) (sc := defScope sParts) (by decide +kernel)) (fun _ _ _ _ _ => pg_name (i := 8) scParts.nd rfl (Or.inl rfl)) (fun _ _ _ _ _ => pts_one (pt_cmpR op_eq (pe_ix ix_list (pv 1) (pv 8) (fun _ _ => rfl)) (pv 6) (nomark _))) (fun _ _ _ _ _ => pv 8)) pa_nil)) pa_nil)))) pss_nil)))
      (pss_one (ps_ret (pe_callTy call_tuple_of (by rfl) T.tup (by decide +kernel) (pa_cons (pv 7) pa_nil))))))), ?_⟩
    refine ⟨_, rfl, p, CW, dx, _, _, rfl, hp, W.cl, W.nM, wf_many _ _, (M : Int), rfl, RgOk.of_le (by omega) (by omega) (by omega) (by omega), fun d nd => ?_⟩
    rw [lab_own]
    have e0 : Ext H (upd H d (.lst (lab M own))) := Ext.upd nd
    refine ⟨_, rfl, p, CW, dx, _, _, rfl, e0 _ _ hp, W.cl, W.nA, wf_arrows _ _, b, rfl, ⟨_, SqT.of (e0 _ _ hb)⟩, for_tup (K := K) (a := b) (xs := as.map V.ref) (fun i σ' H' => (∃ (d : Addr) (v2 v3 v4 v5 : Option V), σ' = [some (.ref p), some (.ref d), v2, v3, v4, v5, Option.none, Option.none, Option.none] ∧ H' d = some (.lst (lab M ((Ars.take i).foldl step1 own)))) ∧ Ext H H')
      ⟨⟨d, _, _, _, _, rfl, upd_same⟩, e0⟩ (fun i σ' H' _ h => SqT.of (h.2 _ _ hb)) ?_ ?_⟩
    · rintro i x σ' H' hx ⟨⟨d, v2, v3, v4, v5, rfl, hd⟩, ex⟩
      obtain ⟨c, a, rfl, ha, hc⟩ := TT.arrow pt hx
      obtain ⟨ia, ib⟩ := ins a (List.mem_of_getElem? ha)
      refine ⟨c, _, rfl, SqT.of (ex _ _ hc), rfl, _, _, rfl, _, _, rfl, rfl, ?_⟩
      refine ⟨_, rfl, _, rfl, d, _, _, _, rfl, rfl, SqL.of hd, lab_at ia rfl, _, rfl, _, rfl, d, _, _, _, rfl, rfl, SqL.of hd, lab_at ib rfl, _, _, rfl, ?_⟩
      refine ⟨_, rfl, _, rfl, d, _, _, _, rfl, rfl, SqL.of hd, lab_at ia rfl, _, rfl, _, rfl, d, _, _, _, rfl, rfl, SqL.of hd, lab_at ib rfl, _, _, rfl, ?_⟩
      generalize hg : (Ars.take i).foldl step1 own = g at *
      refine ⟨_, rfl, d, rfl, ⟨_, SqL.of hd⟩, fun D nD => lc_list (K := K) (a := d) (xs := lab M g) (fun j H'' => H'' = upd H' D (.lst ((lab M (step1 g a)).take j))) (by simp) (fun j H'' _ e => by rw [e]; exact SqL.of (Ext.upd nD _ _ hd)) ?_ ?_⟩
      · rintro j y H'' hy rfl
        have hj : j < M := by have := (List.getElem?_eq_some_iff.mp hy).1; rw [lab_len] at this; exact this
        rw [lab_get hj] at hy
        cases hy
        refine ⟨rfl, tyes_in ⟨_, rfl, _, rfl, rfl, _, rfl, ?_⟩⟩
        have st : step1 g a j = if g j = mx (g a.1) (g a.2) then mn (g a.1) (g a.2) else g j := rfl
        refine ite2 (fun z => ?_) (fun z => ?_)
        · have z' : g j = mx (g a.1) (g a.2) := by have q := of_decide_eq_true z; injection q
          refine ⟨_, rfl, _, upd_same, Nat.lt_of_le_of_lt (List.length_take_le _ _) (small1000 (by omega)), ?_⟩
          rw [upd_upd, lab_take hj, st, if_pos z']
          rfl
        · have z' : ¬ g j = mx (g a.1) (g a.2) := fun q => z (decide_eq_true (congrArg V.int q))
          refine ⟨_, rfl, _, upd_same, Nat.lt_of_le_of_lt (List.length_take_le _ _) (small1000 (by omega)), ?_⟩
          rw [upd_upd, lab_take hj, st, if_neg z']
      · rintro H'' rfl
        refine ⟨⟨D, _, _, _, _, rfl, ?_⟩, ex.trans (Ext.upd nD)⟩
        rw [upd_same, fold_take ha, hg, List.take_of_length_le (by rw [lab_len, lab_len]; exact Nat.le_refl _)]
    · rintro σ' H1 ⟨⟨d, v2, v3, v4, v5, rfl, hd⟩, ex⟩
      have hlen : (as.map V.ref).length = Ars.length := by
        rw [List.length_map, PT2.len pt, List.length_map]
      rw [hlen, List.take_of_length_le (Nat.le_refl _)] at hd
      have hd : H1 d = some (.lst (lab M (fin1 Ars))) := hd
      refine ⟨Nat.zero_le _, fun L nL => ?_⟩
      have e1 : Ext H1 (upd H1 L (.lst [])) := Ext.upd nL
      refine ⟨_, rfl, p, CW, dx, _, _, rfl, e1 _ _ (ex _ _ hp), W.cl, W.nM, wf_many _ _, (M : Int), rfl, by omega, by omega, for_range (lo := 0) (n := M) (fun i σ' H' => (∃ (v6 : Option V), σ' = [some (.ref p), some (.ref d), v2, v3, v4, v5, v6, some (.ref L), Option.none]) ∧ Ext H1 H' ∧ ∃ ls, H' L = some (.lst (ls.map V.ref)) ∧ PT2 H' ls (lotsTo M (fin1 Ars) i) ∧ ls.length ≤ i) ?_ ?_ ?_⟩
      · exact ⟨⟨_, rfl⟩, e1, [], upd_same, .nil, Nat.le_refl _⟩
      · rintro i σ' H' hi ⟨⟨v6, rfl⟩, e2, ls, hL', pl, ll⟩
        have ndL : d ≠ L := ne_of_none hd nL
        refine ⟨_, rfl, _, rfl, d, _, _, _, rfl, rfl, SqL.of (e2 _ _ hd), lab_at hi (Int.zero_add _), _, rfl, rfl, _, rfl, ?_⟩
        refine ite2 (fun z => ?_) (fun z => ?_)
        · have z' : fin1 Ars i = (i : Int) := by have q := of_decide_eq_true z; injection q with q; omega
          refine ⟨_, rfl, .inl ⟨rfl, _, SqL.of hL'⟩, ?_⟩
          refine ⟨_, rfl, p, CW, dx, _, _, rfl, e2 _ _ (ex _ _ hp), W.cl, W.nM, wf_many _ _, (M : Int), rfl, by omega, by omega, fun D nD => lc_range (lo := 0) (n := M) (fun j H'' => H'' = upd H' D (.lst (lotTo (fin1 Ars) (i : Int) j))) rfl ?_ ?_⟩
          · rintro j H'' hj rfl
            refine ⟨rfl, _, rfl, _, rfl, d, _, _, _, rfl, rfl, SqL.of (Ext.upd nD _ _ (e2 _ _ hd)), lab_at hj (Int.zero_add _), _, rfl, rfl, _, rfl, ?_⟩
            have zi : (0 : Int) + (i : Int) = (i : Int) := Int.zero_add _
            refine ite2 (fun y => ?_) (fun y => ?_)
            · have y' : fin1 Ars j = (i : Int) := by have q := of_decide_eq_true y; injection q with q; omega
              refine ⟨_, rfl, _, upd_same, Nat.lt_of_le_of_lt (lotTo_len _ _ _) (small1000 (by omega)), ?_⟩
              rw [upd_upd, lotTo_succ, if_pos y', Int.zero_add]
            · have y' : ¬ fin1 Ars j = (i : Int) := fun q => y (decide_eq_true (by rw [zi, q]))
              show upd H' D _ = upd H' D _
              rw [lotTo_succ, if_neg y']
          · rintro H'' rfl
            refine ⟨D, _, rfl, .inl ⟨SqL.of upd_same, fun t nt => ?_⟩⟩
            have e3 : Ext H' (upd (upd H' D (.lst (lotTo (fin1 Ars) (i : Int) M))) t (.tup (lotTo (fin1 Ars) (i : Int) M))) := (Ext.upd nD).trans (Ext.upd nt)
            refine ⟨L, _, _, rfl, rfl, e3 _ _ hL', by rw [List.length_map]; exact small1000 (by omega), ?_⟩
            have ntL : t ≠ L := fun e => by rw [e, (Ext.upd nD) _ _ hL'] at nt; cases nt
            refine ⟨⟨_, rfl⟩, fun b o h => ?_, ls ++ [t], ?_, ?_, by rw [List.length_append]; exact Nat.succ_le_succ ll⟩
            · rw [upd_ne (ne_of_none h nL)]
              exact e3 _ _ (e2 _ _ h)
            · rw [upd_same, List.map_append]
              rfl
            · rw [lotsTo_succ, if_pos z']
              refine PT2.snoc (pl.mono fun b xs h => ?_) ?_
              · rw [upd_ne (lst_ne hL' h)]
                exact e3 _ _ h
              · rw [upd_ne ntL, upd_same, lotTo_all]
        · have z' : ¬ fin1 Ars i = (i : Int) := fun q => z (decide_eq_true (by rw [q, Int.zero_add]))
          refine ⟨⟨_, rfl⟩, e2, ls, hL', ?_, by omega⟩
          rw [lotsTo_succ, if_neg z']
          exact pl
      · rintro σ' H' ⟨⟨v6, rfl⟩, e2, ls, hL', pl, ll⟩
        refine ⟨_, rfl, L, _, rfl, .inl ⟨SqL.of hL', fun t nt => ?_⟩⟩
        refine k t _ (ex.trans (e2.trans (Ext.upd nt))) ⟨ls, upd_same, ?_⟩
        rw [lotsTo_all] at pl
        exact pl.mono fun b xs h => Ext.upd nt _ _ h
theorem scLParts : FnScope ["many", "arrows", "marks", "turn", "begin", "end", "least", "found", "mark", "place"] ["many", "arrows"] (defScope sLParts) := ⟨rfl, rfl, rfl, by decide +kernel, rfl, by decide +kernel, by decide +kernel⟩
theorem ok_lparts {f : Addr} {fd : FuncData} (F : L2.Fun K "_law_parts" "_law_parts" sLParts f fd) (T : Gb mg) : FnOk P w K mg base CX0 1 f fd ["many", "arrows"] spLParts := by
  refine F.ok scLParts (fun vs H Q E h => ?_) (fun cdv A outer s H vs Q E hr h => ?_)
  · obtain ⟨b, M, A, rfl, _⟩ := h
    rfl
  · obtain ⟨b, M, Ars, rfl, ⟨as, hb, pt⟩, hM, hL, ins, k⟩ := h
    refine ⟨_, pss_cons (ps_set (i := 2) scLParts.nd rfl (Or.inr rfl) (pe_listRg rfl (by rfl) T.list (prg_1 (by rfl) T.rng (pv 0))))
      (pss_cons (ps_for PassesOwn.never rfl (pi_range1 (by rfl) T.rng (pa_cons (pv 0) pa_nil)) (pg_name (i := 3) scLParts.nd rfl (Or.inl rfl))
        (pss_one (ps_for PassesOwn.never rfl (pi_tup (pv 1)) (pg_tup rfl (pgs_cons (pg_name (i := 4) scLParts.nd rfl (Or.inl rfl)) (pgs_cons (pg_name (i := 5) scLParts.nd rfl (Or.inl rfl)) pgs_nil)))
          (pss_cons (ps_set (i := 6) scLParts.nd rfl (Or.inl rfl) (pe_callB (call_min2 rfl) (by rfl) T.min (by decide +kernel) (pa_cons (pe_ix ix_list (pv 2) (pv 4) (fun _ _ => rfl)) (pa_cons (pe_ix ix_list (pv 2) (pv 5) (fun _ _ => rfl)) pa_nil))))
          (pss_cons (ps_asg (pv 6) (pg_sub (pv 2) (pv 4) set_list)) (pss_one (ps_asg (pv 6) (pg_sub (pv 2) (pv 5) set_list))))))))
      (pss_cons (ps_set (i := 7) scLParts.nd rfl (Or.inl rfl) (pe_lst pa_nil))
      (pss_cons (ps_for PassesOwn.never rfl (pi_list (pe_callB (cr_sortedSet rfl) (by rfl) T.sorted (by decide +kernel) (pa_cons (pe_callTy (cr_setOf rfl) (by rfl) T.set (by decide +kernel) (pa_cons (pv 2) pa_nil)) pa_nil))) (pg_name (i := 8) scLParts.nd rfl (Or.inr rfl))
        (pss_one (ps_expr (pe_bm PySem.F.plainAttrs_list PySem.F.slot_list_append PySem.F.type_list_append mt_append (pv 7) (pa_cons (pe_callTy call_tuple_of (by rfl) T.tup (by decide +kernel) (pa_cons (pe_lc (own := [("place", 9)]) (g := gName 9) (tt := tTest (tOp rEq (tOp (rIxL K) (tVar 2) (tVar 9)) (tVar 8))) rfl scLParts.nd (pi_range1 (by rfl) T.rng (pa_cons (pv 0) pa_nil))
            (blkOk_by (N := ["many", "arrows", "marks", "turn", "begin", "end", "least", "found", "mark", "place"]) (sc := defScope sLParts) (by decide +kernel)) (fun _ _ _ _ _ => pg_name (i := 9) scLParts.nd rfl (Or.inl rfl)) (fun _ _ _ _ _ => pts_one (pt_cmpR op_eq (pe_ix ix_list (pv 2) (pv 9) (fun _ _ => rfl)) (pv 8) (nomark _))) (fun _ _ _ _ _ => pv 9)) pa_nil)) pa_nil)))))
      (pss_one (ps_ret (pe_callTy call_tuple_of (by rfl) T.tup (by decide +kernel) (pa_cons (pv 7) pa_nil))))))), ?_⟩
    refine ⟨_, rfl, (M : Int), rfl, RgOk.of_le (by omega) (by omega) (by omega) (by omega), fun d nd => ?_⟩
    rw [lab_own]
    have e0 : Ext H (upd H d (.lst (lab M own))) := Ext.upd nd
    have hlen : (as.map V.ref).length = Ars.length := by
      rw [List.length_map, PT2.len pt, List.length_map]
    refine ⟨_, rfl, (M : Int), rfl, by omega, by omega, for_range (lo := 0) (n := M) (fun i σ' H' => (∃ (v3 v4 v5 v6 : Option V), σ' = [some (.int (M : Int)), some (.ref b), some (.ref d), v3, v4, v5, v6, Option.none, Option.none, Option.none]) ∧ Ext H H' ∧ H' d = some (.lst (lab M (rounds Ars i))))
      ⟨⟨_, _, _, _, rfl⟩, e0, upd_same⟩ ?_ ?_⟩
    · rintro i σ' H' hi ⟨⟨v3, v4, v5, v6, rfl⟩, ex, hd⟩
      refine ⟨_, rfl, b, rfl, ⟨_, SqT.of (ex _ _ hb)⟩, for_tup (K := K) (a := b) (xs := as.map V.ref) (fun j σ' H' => (∃ (v4 v5 v6 : Option V), σ' = [some (.int (M : Int)), some (.ref b), some (.ref d), some (.int (0 + (i : Int))), v4, v5, v6, Option.none, Option.none, Option.none]) ∧ Ext H H' ∧ H' d = some (.lst (lab M ((Ars.take j).foldl step2 (rounds Ars i)))))
        ⟨⟨_, _, _, rfl⟩, ex, hd⟩ (fun j σ' H' _ h => SqT.of (h.2.1 _ _ hb)) ?_ ?_⟩
      · rintro j x σ' H' hx ⟨⟨v4, v5, v6, rfl⟩, ex, hd⟩
        obtain ⟨c, a, rfl, ha, hc⟩ := TT.arrow pt hx
        obtain ⟨ia, ib⟩ := ins a (List.mem_of_getElem? ha)
        refine ⟨c, _, rfl, SqT.of (ex _ _ hc), rfl, _, _, rfl, _, _, rfl, rfl, ?_⟩
        refine ⟨_, rfl, _, rfl, d, _, _, _, rfl, rfl, SqL.of hd, lab_at ia rfl, _, rfl, _, rfl, d, _, _, _, rfl, rfl, SqL.of hd, lab_at ib rfl, _, _, rfl, ?_⟩
        generalize hg : (Ars.take j).foldl step2 (rounds Ars i) = g at *
        refine ⟨_, rfl, _, rfl, _, rfl, d, _, _, a.1, rfl, rfl, hd, by rw [lab_len]; exact ixN_lt ia, ?_⟩
        refine ⟨_, rfl, _, rfl, _, rfl, d, _, _, a.2, rfl, rfl, upd_same, by rw [List.length_set, lab_len]; exact ixN_lt ib, ?_⟩
        refine ⟨⟨_, _, _, rfl⟩, fun b o h => ?_, ?_⟩
        · rw [upd_ne (ne_of_none h nd), upd_ne (ne_of_none h nd)]
          exact ex _ _ h
        · rw [upd_same, fold_take ha, hg]
          have e : (if g a.2 < g a.1 then g a.2 else g a.1) = mn (g a.1) (g a.2) := rfl
          rw [e, lab_set, lab_set]
          rfl
      · rintro σ' H' ⟨⟨v4, v5, v6, rfl⟩, ex, hd⟩
        rw [hlen, List.take_of_length_le (Nat.le_refl _)] at hd
        exact ⟨⟨_, _, _, _, rfl⟩, ex, hd⟩
    · rintro σ' H1 ⟨⟨v3, v4, v5, v6, rfl⟩, ex, hd⟩
      refine ⟨Nat.zero_le _, fun L nL => ?_⟩
      have e1 : Ext H1 (upd H1 L (.lst [])) := Ext.upd nL
      have ndL : d ≠ L := ne_of_none hd nL
      have hdl : lab M (rounds Ars M) = ((List.range M).map (rounds Ars M)).map V.int := by
        unfold lab
        rw [List.map_map]
        rfl
      refine ⟨_, rfl, d, (List.range M).map (rounds Ars M), rfl, SqL.of (by rw [← hdl]; exact e1 _ _ hd), by rw [List.length_map, List.length_range]; omega, fun sp sn nsp hsn => ?_⟩
      generalize hO : SetO _ sp _ sn = O0
      have e2 := Ext.upd (o := O0) nsp
      refine ⟨sp, (fun j => decide (j ∈ (List.range M).map (rounds Ars M))), sn, rfl, upd_same.trans (congrArg some hO.symm), by rw [List.length_map, List.length_range] at hsn; omega, fun S q hS hmem hSl nq => ?_⟩
      have eS : S = heads M (fin1 Ars) := by
        refine marks_heads ins hS fun c => ?_
        rw [hmem]
        rw [decide_eq_true_iff, List.mem_map]
        exact ⟨fun ⟨i, hi, e⟩ => ⟨i, List.mem_range.mp hi, e⟩, fun ⟨i, hi, e⟩ => ⟨i, List.mem_range.mpr hi, e⟩⟩
      have e3 := Ext.upd (o := .lst (S.map V.int)) nq
      have hS12 : S.length ≤ 8 := by
        rw [List.length_map, List.length_range] at hsn
        omega
      have eA : Ext H1 (upd (upd (upd H1 L (.lst [])) sp O0) q (.lst (S.map V.int))) := e1.trans (e2.trans e3)
      have hq0 := upd_same (H := upd (upd H1 L (.lst [])) sp O0) (a := q) (o := .lst (S.map V.int))
      have hL0 := (e2.trans e3) L _ upd_same
      have nqL : q ≠ L := fun e => by
        rw [e, e2 L _ upd_same] at nq
        cases nq
      generalize hA : upd (upd (upd H1 L (.lst [])) sp O0) q (.lst (S.map V.int)) = HA at *
      refine ⟨q, rfl, ⟨_, SqL.of hq0⟩, for_list (K := K) (a := q) (xs := S.map V.int) (fun i σ' H' => (∃ (v8 : Option V), σ' = [some (.int (M : Int)), some (.ref b), some (.ref d), v3, v4, v5, v6, some (.ref L), v8, Option.none]) ∧ Ext H1 H' ∧ H' q = some (.lst (S.map V.int)) ∧ ∃ ls, H' L = some (.lst (ls.map V.ref)) ∧ PT2 H' ls ((S.take i).map (lot M (rounds Ars M))) ∧ ls.length ≤ i)
        ⟨⟨_, rfl⟩, eA, hq0, [], hL0, .nil, Nat.le_refl _⟩ (fun i σ' H' _ h => SqL.of h.2.2.1) ?_ ?_⟩
      · rintro i y σ' H' hy ⟨⟨v8, rfl⟩, ex2, hq, ls, hL', pl, ll⟩
        have hi : i < S.length := by have := (List.getElem?_eq_some_iff.mp hy).1; rw [List.length_map] at this; exact this
        obtain ⟨c, hc, rfl⟩ : ∃ c, S[i]? = some c ∧ y = V.int c := by
          rw [List.getElem?_map, List.getElem?_eq_getElem hi] at hy
          cases hy
          exact ⟨S[i], List.getElem?_eq_getElem hi, rfl⟩
        refine ⟨_, rfl, .inl ⟨rfl, _, SqL.of hL'⟩, ?_⟩
        refine ⟨_, rfl, (M : Int), rfl, by omega, by omega, fun D nD => lc_range (lo := 0) (n := M) (fun j H'' => H'' = upd H' D (.lst (lotTo (rounds Ars M) c j))) rfl ?_ ?_⟩
        · rintro j H'' hj rfl
          refine ⟨rfl, _, rfl, _, rfl, d, _, _, _, rfl, rfl, SqL.of (Ext.upd nD _ _ (ex2 _ _ hd)), lab_at hj (Int.zero_add _), _, rfl, rfl, _, rfl, ?_⟩
          refine ite2 (fun y => ?_) (fun y => ?_)
          · have y' : rounds Ars M j = c := by have q := of_decide_eq_true y; injection q
            refine ⟨_, rfl, _, upd_same, Nat.lt_of_le_of_lt (lotTo_len _ _ _) (small1000 (by omega)), ?_⟩
            rw [upd_upd, lotTo_succ, if_pos y', Int.zero_add]
          · have y' : ¬ rounds Ars M j = c := fun q => y (decide_eq_true (congrArg V.int q))
            show upd H' D _ = upd H' D _
            rw [lotTo_succ, if_neg y']
        · rintro H'' rfl
          refine ⟨D, _, rfl, .inl ⟨SqL.of upd_same, fun t nt => ?_⟩⟩
          have e3 : Ext H' (upd (upd H' D (.lst (lotTo (rounds Ars M) c M))) t (.tup (lotTo (rounds Ars M) c M))) := (Ext.upd nD).trans (Ext.upd nt)
          refine ⟨L, _, _, rfl, rfl, e3 _ _ hL', by rw [List.length_map]; exact small1000 (by omega), ?_⟩
          have ntL : t ≠ L := fun e => by rw [e, (Ext.upd nD) _ _ hL'] at nt; cases nt
          refine ⟨⟨_, rfl⟩, fun b o h => ?_, ?_, ls ++ [t], ?_, ?_, by rw [List.length_append]; exact Nat.succ_le_succ ll⟩
          · rw [upd_ne (ne_of_none h nL)]
            exact e3 _ _ (ex2 _ _ h)
          · rw [upd_ne nqL]
            exact e3 _ _ hq
          · rw [upd_same, List.map_append]
            rfl
          · rw [List.take_succ, hc, List.map_append]
            refine PT2.snoc (pl.mono fun b xs h => ?_) ?_
            · rw [upd_ne (lst_ne hL' h)]
              exact e3 _ _ h
            · rw [upd_ne ntL, upd_same, lotTo_all]
      · rintro σ' H' ⟨⟨v8, rfl⟩, ex2, hq, ls, hL', pl, ll⟩
        refine ⟨_, rfl, L, _, rfl, .inl ⟨SqL.of hL', fun t nt => ?_⟩⟩
        refine k t _ (ex.trans (ex2.trans (Ext.upd nt))) ⟨ls, upd_same, ?_⟩
        rw [List.length_map, List.take_of_length_le (Nat.le_refl _)] at pl
        have el : S.map (lot M (rounds Ars M)) = lots M Ars := by
          unfold lots
          rw [eS]
          exact List.map_congr_left fun c _ => lot_same ins c
        rw [el] at pl
        exact pl.mono fun b xs h => Ext.upd nt _ _ h
end
end K9
set_option Elab.async false
set_option linter.all false
set_option maxRecDepth 100000
set_option maxHeartbeats 4000000
namespace K9
open PySem L2 K9M
abbrev sPot : Stmt := top 21
theorem off_le {a : Addr} {H : Hp} : Ext (Off a H) H := fun b o h => (off_some h).2
/-! ### what BadWeb tells is one -/
theorem BadPart.uniq {H : Hp} {x y v v' : V} (b : BadPart H x y v) (c : BadPart H x y v') : v = v' := by
  rcases b with ⟨nx, rfl⟩ | ⟨m, ex, h1, h8, b⟩
  · rcases c with ⟨_, rfl⟩ | ⟨m', ex', h1', h8', _⟩
    · rfl
    · exact absurd ⟨m', ex', h1', h8'⟩ nx
  · rcases c with ⟨nx, rfl⟩ | ⟨m', ex', h1', h8', c⟩
    · exact absurd ⟨m, ex, h1, h8⟩ nx
    · rw [ex] at ex'
      cases ex'
      rcases b with ⟨rfl, nb⟩ | ⟨d, xs, k, z, ey, hd, hl, rfl, hk, nz, az⟩
      · rcases c with ⟨rfl, _⟩ | ⟨d', xs', k', z', ey', hd', hl', _⟩
        · rfl
        · exact absurd ⟨d', xs', ey', hd', hl'⟩ nb
      · rcases c with ⟨_, nb⟩ | ⟨d', xs', k', z', ey', hd', hl', rfl, hk', nz', az'⟩
        · exact absurd ⟨d, xs, ey, hd, hl⟩ nb
        · rw [ey] at ey'
          cases ey'
          rw [hd] at hd'
          cases hd'
          rcases Nat.lt_trichotomy k k' with l | l | l
          · exact absurd (az' k z l hk) nz
          · rw [l]
          · exact absurd (az k' z' l hk') nz'
theorem BadPart.none {H : Hp} {m : Int} {b : Addr} {xs : List V} (h1 : 1 ≤ m) (h8 : m ≤ 8) (hb : H b = some (.tup xs)) (hl : xs.length ≤ 12) (az : ∀ z ∈ xs, isArr H m z) {v : V} (B : BadPart H (.int m) (.ref b) v) : False := by
  rcases B with ⟨nx, _⟩ | ⟨m', ex, _, _, B⟩
  · exact nx ⟨m, rfl, h1, h8⟩
  · cases ex
    rcases B with ⟨_, nb⟩ | ⟨d, ys, k, z, ey, hd, _, _, hk, nz, _⟩
    · exact nb ⟨b, xs, rfl, hb, hl⟩
    · cases ey
      rw [hb] at hd
      cases hd
      exact nz (az z (List.mem_of_getElem? hk))
theorem BadPart.kind {H : Hp} {x y v : V} (b : BadPart H x y v) : v = .str "many" ∨ v = .str "arrows" ∨ ∃ k : Int, v = .int k := by
  rcases b with ⟨_, rfl⟩ | ⟨m, _, _, _, b⟩
  · exact .inl rfl
  · rcases b with ⟨rfl, _⟩ | ⟨_, _, k, _, _, _, _, rfl, _⟩
    · exact .inr (.inl rfl)
    · exact .inr (.inr ⟨_, rfl⟩)
theorem BadPart.fwd {K : PySem.W.Frag} {S H : Hp} {x y v : V} (e : Ext S H) (h : Th K S 2 y) (b : BadPart S x y v) : BadPart H x y v := by
  rcases b with b | ⟨m, em, h1, h8, b⟩
  · exact .inl b
  · refine .inr ⟨m, em, h1, h8, ?_⟩
    rcases b with ⟨ev, b⟩ | ⟨c, xs, k, z, rfl, hc, hl, ev, hk, nz, az⟩
    · exact .inl ⟨ev, fun ⟨c, xs, ey, hc, hl⟩ => b ⟨c, xs, ey, by rw [ey] at h; exact h.tup_back e hc, hl⟩⟩
    · have it := h.items hc
      exact .inr ⟨c, xs, k, z, rfl, e _ _ hc, hl, ev, hk, fun q => nz (q.back e (it z (List.mem_of_getElem? hk))), fun i u hi hu => (az i u hi hu).ext e⟩
/-! ### webs that can be made -/
/-- arrows of m places stand at b -/
def AT (H : Hp) (m : Int) (b : Addr) (ll : List (List Int)) : Prop := TT H b ll ∧ ll.length ≤ 12 ∧ ∀ l ∈ ll, ArrL m l
theorem AT.ext {H H' : Hp} {m : Int} {b : Addr} {ll : List (List Int)} (e : Ext H H') (h : AT H m b ll) : AT H' m b ll := ⟨h.1.ext e, h.2⟩
theorem AT.th {K : PySem.W.Frag} {H : Hp} {m : Int} {b : Addr} {ll : List (List Int)} (h : AT H m b ll) : Th K H 2 (.ref b) := by
  obtain ⟨⟨as, hb, pt⟩, _⟩ := h
  exact Th.tup hb (PT2.th pt)
theorem AT.arr {H : Hp} {m : Int} {b : Addr} {ll : List (List Int)} (h : AT H m b ll) {xs : List V} (hb : H b = some (.tup xs)) : xs.length ≤ 12 ∧ ∀ z ∈ xs, isArr H m z := by
  obtain ⟨⟨as, hb', pt⟩, hl, ar⟩ := h
  rw [hb] at hb'
  cases hb'
  refine ⟨by rw [List.length_map, PT2.len pt]; exact hl, fun z hz => ?_⟩
  obtain ⟨i, hi⟩ := List.mem_iff_getElem?.mp hz
  exact PT2.arr pt ar hi
theorem mk_web {K : PySem.W.Frag} {CW CB : Addr} {H : Hp} {m : Int} {b : Addr} {ll : List (List Int)} {Q : VK} (h1 : 1 ≤ m) (h8 : m ≤ 8) (at' : AT H m b ll) (k : ∀ (o : Addr) (H' : Hp), WebAt CW H' o m b → Ext H H' → Q (.ref o) H') :
    ∀ x dx, H x = none → H dx = none → dx ≠ x → spWebI K CW CB (.ref x :: ([.int m, .ref b] ++ [])) (upd (upd H dx (.own x)) x (.ins CW dx [])) (fun v H2 => v = .non ∧ Q (.ref x) H2) E0 := by
  intro x dx nx ndx ne
  have e1 : Ext H (upd (upd H dx (.own x)) x (.ins CW dx [])) := (Ext.upd ndx).trans (Ext.upd (by rw [upd_ne ne.symm]; exact nx))
  have a1 := at'.ext e1
  refine ⟨x, dx, .int m, .ref b, rfl, upd_same, Th.int m, a1.th, fun m' b' xs H' em _ _ eb hb hl az hw kp => ⟨rfl, ?_⟩, fun v d H' bp _ _ _ => ?_⟩
  · cases em
    cases eb
    exact k x H' ⟨dx, hw⟩ fun c u hc => kp c u (ne_of_none hc nx) (e1 _ _ hc)
  · obtain ⟨as, hb, _⟩ := id a1.1
    obtain ⟨hl, az⟩ := a1.arr hb
    exact bp.none h1 h8 hb hl az
theorem WebAt.ext {C p b : Addr} {m : Int} {H H' : Hp} (e : Ext H H') (h : WebAt C H p m b) : WebAt C H' p m b := h.imp fun _ h => e _ _ h
/-! ### pieces of tuples -/
theorem p_drop {α β : Type} {F : α → β → Prop} : ∀ {l : List α} {k : List β} (n : Nat), Paired F l k → Paired F (l.drop n) (k.drop n)
  | _, _, 0, r => r
  | _, _, n + 1, .nil => .nil
  | _, _, n + 1, .cons _ r => p_drop n r
theorem p_take {α β : Type} {F : α → β → Prop} : ∀ {l : List α} {k : List β} (n : Nat), Paired F l k → Paired F (l.take n) (k.take n)
  | _, _, 0, r => .nil
  | _, _, n + 1, .nil => .nil
  | _, _, n + 1, .cons a r => .cons a (p_take n r)
theorem p_app {α β : Type} {F : α → β → Prop} : ∀ {l l' : List α} {k k' : List β}, Paired F l k → Paired F l' k' → Paired F (l ++ l') (k ++ k')
  | _, _, _, _, .nil, r' => r'
  | _, _, _, _, .cons a r, r' => .cons a (p_app r r')
/-- with the places of the pairs -/
def TA (H : Hp) (b : Addr) (as : List Addr) (ll : List (List Int)) : Prop := H b = some (.tup (as.map V.ref)) ∧ PT2 H as ll
theorem TA.tt {H : Hp} {b : Addr} {as : List Addr} {ll : List (List Int)} (h : TA H b as ll) : TT H b ll := ⟨as, h⟩
theorem TA.ext {H H' : Hp} {b : Addr} {as : List Addr} {ll : List (List Int)} (e : Ext H H') (h : TA H b as ll) : TA H' b as ll := ⟨e _ _ h.1, PT2.mono (fun _ _ z => e _ _ z) h.2⟩
theorem cut_map (as : List Addr) (lo hi : Option Int) : cutV (as.map V.ref) lo hi = ((as.drop (HT.sIx as.length 0 lo)).take (HT.sIx as.length as.length hi - HT.sIx as.length 0 lo)).map V.ref := by
  unfold cutV
  rw [List.length_map, List.map_take, List.map_drop]
/-- a slice that is not the whole -/
theorem TA.cut {H : Hp} {b p : Addr} {as : List Addr} {ll : List (List Int)} (h : TA H b as ll) (np : H p = none) (lo hi : Option Int) :
    TA (upd H p (.tup (cutV (as.map V.ref) lo hi))) p ((as.drop (HT.sIx as.length 0 lo)).take (HT.sIx as.length as.length hi - HT.sIx as.length 0 lo)) ((ll.drop (HT.sIx as.length 0 lo)).take (HT.sIx as.length as.length hi - HT.sIx as.length 0 lo)) := by
  refine ⟨by rw [upd_same, cut_map], ?_⟩
  exact PT2.mono (fun b xs z => Ext.upd np _ _ z) (p_take _ (p_drop _ h.2))
theorem TA.cat {H : Hp} {b c p : Addr} {as cs : List Addr} {ll kk : List (List Int)} (h : TA H b as ll) (h' : TA H c cs kk) (np : H p = none) : TA (upd H p (.tup (as.map V.ref ++ cs.map V.ref))) p (as ++ cs) (ll ++ kk) :=
  ⟨by rw [upd_same, List.map_append], PT2.mono (fun b xs z => Ext.upd np _ _ z) (p_app h.2 h'.2)⟩
theorem arrows_of {m : Int} : ∀ {ll : List (List Int)}, (∀ l ∈ ll, ArrL m l) → ∃ A : Ar, ll = A.map arL ∧ Inside m.toNat A
  | [], _ => ⟨[], rfl, fun a ha => by cases ha⟩
  | l :: ll, h => by
    obtain ⟨p, q, rfl, h1, h2, h3, h4⟩ := h l List.mem_cons_self
    obtain ⟨A, rfl, ins⟩ := arrows_of (m := m) (ll := ll) fun k hk => h k (List.mem_cons_of_mem _ hk)
    refine ⟨(p.toNat, q.toNat) :: A, ?_, fun a ha => ?_⟩
    · have e1 : ((p.toNat : Nat) : Int) = p := by omega
      have e2 : ((q.toNat : Nat) : Int) = q := by omega
      show [p, q] :: _ = [((p.toNat : Nat) : Int), ((q.toNat : Nat) : Int)] :: _
      rw [e1, e2]
    · rcases List.mem_cons.mp ha with rfl | ha
      · exact ⟨by show p.toNat < m.toNat; omega, by show q.toNat < m.toNat; omega⟩
      · exact ins a ha
/-! ### the pot -/
def spPot (K : PySem.W.Frag) : Sp := fun vs H Q _ => ∃ (s : Addr) (ns : List Int), vs = [.ref s] ∧ SqL K H s (ns.map V.int) ∧ ns.length ≤ 63 ∧ ∀ (r : Addr) (H' : Hp), Ext H H' → PotAt H' r → Q (.ref r) H'
section
variable {P : Program} {w : World} {K : PySem.W.Frag} {mg : Str → Option Value} {base : Heap}
theorem scPot : FnScope ["script", "cells", "cell"] ["script"] (defScope sPot) := ⟨rfl, rfl, rfl, by decide +kernel, rfl, by decide +kernel, by decide +kernel⟩
theorem ok_pot {f : Addr} {fd : FuncData} (F : L2.Fun K "_law_pot" "_law_pot" sPot f fd) (T : Gb mg) : FnOk P w K mg base CX0 1 f fd ["script"] (spPot K) := by
  refine F.ok scPot (fun vs H Q E h => ?_) (fun cdv A outer s H vs Q E hr h => ?_)
  · obtain ⟨a, ns, rfl, _⟩ := h
    rfl
  · obtain ⟨a, ns, rfl, hS, hlen, k⟩ := h
    refine ⟨_, pss_cons (ps_setLc (i := 1) (own := [("cell", 2)]) (g := gName 2) (tt := tYes) rfl scPot.nd rfl rfl (sw_true rfl rfl rfl (by decide +kernel)) (pi_list (pe_slice sl_list (pv 0) po_none (po_some pe_int))) (blkOk_by (N := ["script", "cells", "cell"]) (sc := defScope sPot) (by decide +kernel))
        (fun _ _ _ _ _ => pg_name (i := 2) scPot.nd rfl (Or.inl rfl)) (fun _ _ _ _ _ => pts_nil) (fun _ _ _ _ _ => pe_callB call_abs (by rfl) T.abs (by decide +kernel) (pa_cons (pe_callTy call_int1 (by rfl) T.int (by decide +kernel) (pa_cons (pv 2) pa_nil)) pa_nil)))
      (pss_one (ps_ret (pe_lst (pa_cons (pv 1) (pa_cons pe_int (pa_cons pe_int (pa_cons (pe_op op_add pe_int (pe_callB call_len_seq (by rfl) T.len PySem.boot_len (pa_cons (pv 1) pa_nil))) (pa_cons pe_int pa_nil)))))))), ?_⟩
    have all : ∀ y ∈ cutV (ns.map V.int) Option.none (some 63), ∃ i, y = V.int i := fun y hy => by
      have hy := List.mem_of_mem_drop (List.mem_of_mem_take hy)
      obtain ⟨i, _, rfl⟩ := List.mem_map.mp hy
      exact ⟨i, rfl⟩
    have cl : (cutV (ns.map V.int) Option.none (some 63)).length ≤ 63 := Nat.le_trans (cutV_length _ _ _) (by rw [List.length_map]; exact hlen)
    refine ⟨_, rfl, 63, rfl, a, _, rfl, hS, fun l nl => ?_⟩
    generalize cutV (ns.map V.int) Option.none (some 63) = xs at *
    refine ⟨l, rfl, ⟨_, SqL.of upd_same⟩, fun D nD => lc_list (K := K) (a := l) (xs := xs) (fun i H' => ∃ cs : List Int, H' = upd (upd H l (.lst xs)) D (.lst (cs.map V.int)) ∧ cs.length = i) ⟨[], rfl, rfl⟩ (fun i H' _ ⟨cs, e, _⟩ => by rw [e]; exact SqL.of (Ext.upd nD _ _ upd_same)) ?_ ?_⟩
    · rintro i y H' hy ⟨cs, rfl, hc⟩
      obtain ⟨z, rfl⟩ := all y (List.mem_of_getElem? hy)
      have hi := (List.getElem?_eq_some_iff.mp hy).1
      refine ⟨rfl, tyes_in ⟨_, rfl, .inl ⟨_, rfl, _, rfl, ?_⟩⟩⟩
      refine ⟨_, upd_same, by rw [List.length_map]; exact small1000 (by omega), cs ++ [if z < 0 then -z else z], ?_, by rw [List.length_append, hc]; rfl⟩
      rw [upd_upd, List.map_append]
      rfl
    · rintro H' ⟨cs, rfl, hc⟩
      have e1 : Ext H (upd (upd H l (.lst xs)) D (.lst (cs.map V.int))) := (Ext.upd nl).trans (Ext.upd nD)
      refine ⟨_, rfl, _, rfl, D, _, rfl, .inl (SqL.of upd_same), _, _, rfl, rfl, by show 5 ≤ sizeLine; decide, fun r nr => ?_⟩
      exact k r _ (e1.trans (Ext.upd nr)) ⟨D, cs, 0, 0, _, 0, upd_same, by rw [upd_ne (ne_of_none upd_same nr), upd_same]⟩
end
end K9
set_option Elab.async false
set_option linter.all false
set_option maxRecDepth 100000
set_option maxHeartbeats 8000000
namespace K9
open PySem L2 K9M
abbrev sOne : Stmt := top 29
def spOne : Sp := fun vs H Q _ => ∃ a : Addr, vs = [.ref a] ∧ PotAt H a ∧ ∀ H' : Hp, Go a H H' → Q (.bl true) H'
/-- what is due: nothing is wrong, or what BadWeb must tell -/
def Due (S : Hp) (m : Int) (x y v : V) : Prop := (v = .non ∧ x = .int m ∧ ∃ b ll, y = .ref b ∧ AT S m b ll) ∨ BadPart S x y v
theorem due_of {K : PySem.W.Frag} {S : Hp} {m : Int} {y v : V} (h1 : 1 ≤ m) (h8 : m ≤ 8) (h : ArrOut K S m y v) : Due S m (.int m) y v := by
  obtain ⟨_, h | ⟨ev, no⟩ | ⟨b, xs, k, z, ey, hb, hl, ev, hk, nz, az⟩⟩ := h
  · obtain ⟨ev, b, ll, ey, tt, hl, ar⟩ := h
    exact .inl ⟨ev, rfl, b, ll, ey, tt, hl, ar⟩
  · exact .inr (.inr ⟨m, rfl, h1, h8, .inl ⟨ev, no⟩⟩)
  · exact .inr (.inr ⟨m, rfl, h1, h8, .inr ⟨b, xs, k, z, ey, hb, hl, ev, hk, nz, az⟩⟩)
/-- what isinstance(.., str) says of what BadWeb tells -/
theorem kind_str {K : PySem.W.Frag} {H : Hp} {v : V} (h : v = .str "many" ∨ v = .str "arrows" ∨ ∃ k : Int, v = .int k) : ∃ t b d, TyX K H v t ∧ PySem.W.kitOne K t (.type "str") = some b ∧ Dp K H v d ∧ SeqAt.shaped (.tuple [.str "bad", d]) = true ∧ PyData.eqv (.tuple [.str "bad", d]) (.tuple [.str "bad", d]) = true := by
  rcases h with rfl | rfl | ⟨k, rfl⟩
  · exact ⟨_, true, _, .base (.str _), kit_ty (by decide +kernel), .str _, by decide +kernel, by decide +kernel⟩
  · exact ⟨_, true, _, .base (.str _), kit_ty (by decide +kernel), .str _, by decide +kernel, by decide +kernel⟩
  · refine ⟨_, false, _, .base (.int _), kit_ty (by decide +kernel), .int _, ?_, ?_⟩
    · have e : PyData.canLay0 (.tuple [.str "bad", .int k]) = true := by
        rw [PyData.canLay0, PyData.canLayAll0, PyData.canLayAll0, PyData.canLayAll0, PyData.canLay0, PyData.canLay0]
        decide +kernel
      refine Bool.and_eq_true_iff.mpr ⟨e, decide_eq_true ?_⟩
      simp [PyData.depth, PyData.depthAll]
    · simp [PyData.eqv, PyData.eqvAll]
theorem shaped_md (m : Int) (ll : List (List Int)) : SeqAt.shaped (.tuple [.int m, dT ll]) = true := by
  obtain ⟨h, g⟩ := lay_lists ll
  refine Bool.and_eq_true_iff.mpr ⟨?_, decide_eq_true ?_⟩
  · unfold dT
    simp only [PyData.canLay0, PyData.canLayAll0, h, Bool.and_true]
  · unfold dT
    simp only [PyData.depth, PyData.depthAll]
    omega
theorem eqv_md (m : Int) (ll : List (List Int)) : PyData.eqv (.tuple [.int m, dT ll]) (.tuple [.int m, dT ll]) = true := by
  have e := eqv_dT ll ll
  simp [PyData.eqv, PyData.eqvAll, e]
theorem dp_pair {K : PySem.W.Frag} {H : Hp} {c : Addr} {l : List Int} (h : H c = some (.tup (l.map V.int))) : Dp K H (.ref c) (.tuple (l.map .int)) := .tup (SqT.of h) (dp_ints l)
theorem shaped_l (l : List Int) : SeqAt.shaped (.tuple (l.map .int)) = true := by
  obtain ⟨h, g⟩ := lay_ints l
  refine Bool.and_eq_true_iff.mpr ⟨by rw [PyData.canLay0]; exact h, decide_eq_true ?_⟩
  rw [PyData.depth, g]
  decide
/-- two webs compared -/
theorem own_web {K : PySem.W.Frag} {CW : Addr} (IW : IsC K CW) (nf : PySem.W.notFirst K CW (.ref CW) = true) {H : Hp} {p b o b' : Addr} {m m' : Int} {ll kk : List (List Int)} {Q : VK} (hw : WebAt CW H p m b) (tt : TT H b ll) (ho : WebAt CW H o m' b') (tt' : TT H b' kk)
    (h : Q (.bl (decide (m = m') && decide (ll = kk))) H) : rOwn K CW (spEqW K CW) (.ref p) (.ref o) H Q := by
  obtain ⟨dx, hp⟩ := id hw
  obtain ⟨dy, ho'⟩ := id ho
  exact ⟨p, dx, _, .ref CW, rfl, hp, IW.ty ho', nf, p, _, m, b, ll, rfl, hw, tt, .inl ⟨o, m', b', kk, rfl, ho, tt', ⟨_, rfl⟩, h⟩⟩
/-- a web compared with something else -/
theorem own_else {K : PySem.W.Frag} {CW : Addr} {H : Hp} {p b : Addr} {m : Int} {ll : List (List Int)} {Q : VK} {z : V} {t : Value} (hw : WebAt CW H p m b) (tt : TT H b ll) (tz : TyX K H z t) (kz : PySem.W.kitOne K t (.ref CW) = some false) (nf : PySem.W.notFirst K CW t = true)
    (h : Q (.bl false) H) : rOwn K CW (spEqW K CW) (.ref p) z H Q := by
  obtain ⟨dx, hp⟩ := id hw
  exact ⟨p, dx, _, t, rfl, hp, tz, nf, p, _, m, b, ll, rfl, hw, tt, .inr ⟨t, tz, kz, ⟨_, rfl⟩, h⟩⟩
/-- a web made and compared at once -/
theorem mk_own {K : PySem.W.Frag} {CW CB p : Addr} {H : Hp} {m : Int} {b : Addr} {ll : List (List Int)} {R : VK} (h1 : 1 ≤ m) (h8 : m ≤ 8) (at' : AT H m b ll) (k : ∀ (o : Addr) (H' : Hp), WebAt CW H' o m b → Ext H H' → rOwn K CW (spEqW K CW) (.ref p) (.ref o) H' R) :
    ∀ x dx, H x = none → H dx = none → dx ≠ x → spWebI K CW CB (.ref x :: ([.int m, .ref b] ++ [])) (upd (upd H dx (.own x)) x (.ins CW dx [])) (fun v H2 => v = .non ∧ rOwn K CW (spEqW K CW) (.ref p) (.ref x) H2 R) E0 :=
  mk_web (Q := fun v H2 => rOwn K CW (spEqW K CW) (.ref p) v H2 R) h1 h8 at' k
theorem sIx_m1 (n d : Nat) : HT.sIx n d (some (-1)) = n - 1 := by
  show (if (-1 : Int) < 0 then ((-1 : Int) + (n : Int)).toNat else min (-1 : Int).toNat n) = n - 1
  rw [if_pos (by decide)]
  omega
theorem sIx_1 (n d : Nat) : HT.sIx n d (some 1) = min 1 n := HT.sIx_nat n d 1
theorem drop_last {α : Type} {l : List α} {x : α} {n : Nat} (hn : l.length = n) (h : l[n - 1]? = some x) : (l.drop (n - 1)).take (n - (n - 1)) = [x] := by
  obtain ⟨lt, e⟩ := List.getElem?_eq_some_iff.mp h
  rw [List.drop_eq_getElem_cons lt, e, List.drop_of_length_le (by omega), show n - (n - 1) = 1 by omega]
  rfl
theorem at_0 {α : Type} {xs : List α} {v : α} (h : xs[0]? = some v) : atI xs 0 = some v := by
  have lt := (List.getElem?_eq_some_iff.mp h).1
  have e : ixN xs.length 0 = some 0 := by
    unfold ixN
    rw [if_pos (by decide), if_pos (by omega)]
    rfl
  unfold atI
  rw [e]
  exact h
theorem at_m1 {α : Type} {xs : List α} {v : α} (h : xs[xs.length - 1]? = some v) : atI xs (-1) = some v := by
  have lt := (List.getElem?_eq_some_iff.mp h).1
  have e : ixN xs.length (-1) = some (xs.length - 1) := by
    unfold ixN
    rw [if_neg (by decide), if_pos (by omega)]
    congr 1
    omega
  unfold atI
  rw [e]
  exact h
theorem AT.of {H : Hp} {m : Int} {b : Addr} {as : List Addr} {ll : List (List Int)} (h : TA H b as ll) (hl : ll.length ≤ 12) (ar : ∀ l ∈ ll, ArrL m l) : AT H m b ll := ⟨h.tt, hl, ar⟩
theorem take_last {α : Type} {l : List α} {x : α} (h : l[l.length - 1]? = some x) : l = l.take (l.length - 1) ++ [x] := by
  have lt := (List.getElem?_eq_some_iff.mp h).1
  have e : l.take (l.length - 1 + 1) = l.take (l.length - 1) ++ [x] := by
    rw [List.take_succ, h]
    rfl
  rw [← e, List.take_of_length_le (by omega)]
theorem eqv_pairs (l k : List Int) : PyData.eqv (.tuple (l.map .int)) (.tuple (k.map .int)) = decide (l = k) := by
  rw [PyData.eqv]
  exact eqv_ints l k
section
variable {P : Program} {w : World} {K : PySem.W.Frag} {mg : Str → Option Value} {base : Heap}
theorem scOne : FnScope ["pot", "many", "arrows", "part", "due", "first", "told", "web", "begin", "end", "found"] ["pot"] (defScope sOne) := ⟨rfl, rfl, rfl, by decide +kernel, rfl, by decide +kernel, by decide +kernel⟩
theorem ok_one {f fT fW fE CT CW CB : Addr} {fd fdT fdW fdE : FuncData} (F : L2.Fun K "_law_one" "_law_one" sOne f fd) (T : Gb mg) (D : TabD K mg CT) (TC : TabC K CT CW) (W : WebC K mg CW) (IW : IsC K CW)
    (cD : Cal P w K mg base 1 "_law_draw" spDraw []) (cA : Cal P w K mg base 2 "_law_any" spAny []) (cO : Cal P w K mg base 5 "_law_odd" (spOdd K) []) (cR : Cal P w K mg base 6 "_law_arrows" (spArrows K) [])
    (cM : Cal P w K mg base 6 "_law_made" (spMade K CW) []) (cP : Cal P w K mg base 1 "parts" (spParts CW) []) (cL : Cal P w K mg base 1 "_law_parts" spLParts [])
    (MT : Mk K CT fT) (FT : FnOk P w K mg base CX0 3 fT fdT ["self", "prime", "wide", "rows"] (spTab CT)) (bT : Binds K fdT ["self", "prime", "wide", "rows"] [])
    (MW : Mk K CW fW) (FW : FnOk P w K mg base (L2.CX P w) 4 fW fdW ["self", "many", "arrows"] (spWebI K CW CB)) (bW : Binds K fdW ["self", "many", "arrows"] [])
    (FE : FnOk P w K mg base CX0 1 fE fdE ["self", "other"] (spEqW K CW)) (bE : Binds K fdE ["self", "other"] []) (hsE : PySem.W.findIn K (.ref CW) "__eq__" = some (some (.ref fE))) (hfE : PySem.W.isFn K (.ref fE) = true)
    (kTup : PySem.W.kitOne K (.type "tuple") (.ref CW) = some false) (nfT : PySem.W.notFirst K CW (.type "tuple") = true) (nfW : PySem.W.notFirst K CW (.ref CW) = true) :
    FnOk P w K mg base CX0 7 f fd ["pot"] spOne := by
  refine F.ok scOne (fun vs H Q E h => ?_) (fun cdv A outer s H vs Q E hr h => ?_)
  · obtain ⟨a, rfl, _⟩ := h
    rfl
  · obtain ⟨a, rfl, pot, k⟩ := h
    have hr1 : Room 1 _ := hr.mono (by decide)
    have hr4 : Room 4 _ := hr.mono (by decide)
    have hr5 : Room 5 _ := hr.mono (by decide)
    refine ⟨_, C8.pss_cut (ps_set (i := 1) scOne.nd rfl (Or.inl rfl) (pe_op op_add pe_int (C8.pe_c cD hr (by decide) (by rfl) (pa_cons (pv 0) (pa_cons pe_int pa_nil)))))
      (pss_cons (ps_asg (C8.pe_c cR hr (by decide) (by rfl) (pa_cons (pv 0) (pa_cons (pv 1) pa_nil))) (pg_tup rfl (pgs_cons (pg_name (i := 2) scOne.nd rfl (Or.inl rfl)) (pgs_cons (pg_name (i := 3) scOne.nd rfl (Or.inl rfl)) pgs_nil))))
      (pss_cons (ps_par (i := 4) (j := 5) rfl scOne.nd rfl rfl (by decide) rfl rfl (pa_cons (pv 3) (pa_cons (pv 1) pa_nil)) (by rfl))
      (C8.pss_cut (ps_if (pt_cmpR op_eq (C8.pe_c cD hr (by decide) (by rfl) (pa_cons (pv 0) (pa_cons pe_int pa_nil))) pe_int (nomark _))
        (pss_one (ps_par (i := 5) (j := 4) rfl scOne.nd rfl rfl (by decide) rfl rfl (pa_cons (C8.pe_c cA hr (by decide) (by rfl) (pa_cons (pv 0) (pa_cons (pe_lst (pa_cons pe_int (pa_cons pe_int (pa_cons (pe_un un_neg pe_int) (pa_cons (pe_op op_pow pe_int pe_int) (pa_cons (C8.pe_c cO hr (by decide) (by rfl) (pa_cons (pv 0) pa_nil)) pa_nil)))))) pa_nil))) (pa_cons pe_str pa_nil)) (by rfl))) pss_nil)
      (pss_cons (ps_set (i := 6) scOne.nd rfl (Or.inl rfl) (C8.pe_c cM hr (by decide) (by rfl) (pa_cons (pv 5) (pa_cons (pv 2) pa_nil))))
      (pss_cons (ps_if (pt_cmpR op_notN (pv 4) pe_non (nomark _))
        (pss_one (ps_ret (pe_and (pe_cmpR (op_eqD hr.units) (pv 6) (pe_tup (pa_cons pe_str (pa_cons (pv 4) pa_nil))) (nomark _))
          (pe_one (pe_cmpR op_eq (pe_callB call_isi (by rfl) T.isi (by decide +kernel) (pa_cons (pe_ix ix_tup (pv 6) pe_int (fun _ _ => rfl)) (pa_cons (pe_bltn (v := .ty "str") (by rfl) T.str (by decide +kernel) rfl) pa_nil)))
            (pe_callB call_isi (by rfl) T.isi (by decide +kernel) (pa_cons (pv 4) (pa_cons (pe_bltn (v := .ty "str") (by rfl) T.str (by decide +kernel) rfl) pa_nil))) (nomark _)))))) pss_nil)
      (pss_cons (ps_if (PW.pt (pw_or (pt_cmpR op_ne (pe_ix ix_tup (pv 6) pe_int (fun _ _ => rfl)) pe_str (nomark _)) (pw_or1 (pt_not (pt_val (pe_callB call_isi (by rfl) T.isi (by decide +kernel) (pa_cons (pe_ix ix_tup (pv 6) pe_int (fun _ _ => rfl)) (pa_cons (pe_glob (v := .ref CW) rfl W.mgC rfl) pa_nil)))))))) (pss_one (ps_ret pe_bl)) pss_nil)
      (pss_cons (ps_set (i := 7) scOne.nd rfl (Or.inl rfl) (pe_ix ix_tup (pv 6) pe_int (fun _ _ => rfl)))
      (pss_cons (ps_if (PW.pt (pw_or (pt_cmpR (op_neD hr.units) (pe_tup (pa_cons (pe_fld (pv 7) rfl) (pa_cons (pe_fld (pv 7) rfl) pa_nil))) (pe_tup (pa_cons (pv 1) (pa_cons (pv 2) pa_nil))) (nomark _))
          (pw_or (pt_not (pt_cmpR (op_own FE hsE hfE bE hr1) (pv 7) (pe_make MW FW hr5 (by rfl) W.mgC bW .nil passL (pa_cons (pv 1) (pa_cons (pe_callTy call_tuple_of (by rfl) T.tup (by decide +kernel) (pa_cons (pe_callTy call_list_of (by rfl) T.list (by decide +kernel) (pa_cons (pv 2) pa_nil)) pa_nil)) pa_nil))) (nomark _)))
          (pw_or1 (pt_cmpR (op_own FE hsE hfE bE hr1) (pv 7) (pe_tup (pa_cons (pv 1) (pa_cons (pv 2) pa_nil))) (nomark _)))))) (pss_one (ps_ret pe_bl)) pss_nil)
      (C8.pss_cut (ps_if (PW.pt (pw_or (pt_cmpR (op_own FE hsE hfE bE hr1) (pv 7) (pe_make MT FT hr4 (by rfl) D.mgC bT .nil pass0 (pa_cons pe_int (pa_cons pe_int (pa_cons (pe_tup pa_nil) pa_nil)))) (nomark _))
          (pw_or1 (PW.pt (pw_and (pt_cmpR op_lt (pv 1) pe_int (nomark _)) (pw_and1 (pt_cmpR (op_own FE hsE hfE bE hr1) (pv 7) (pe_make MW FW hr5 (by rfl) W.mgC bW .nil passL (pa_cons (pe_op op_add (pv 1) pe_int) (pa_cons (pv 2) pa_nil))) (nomark _)))))))) (pss_one (ps_ret pe_bl)) pss_nil)
      (C8.pss_cut (ps_if (pt_cmpR op_gt (pe_callB call_len_seq (by rfl) T.len PySem.boot_len (pa_cons (pv 2) pa_nil)) pe_int (nomark _))
        (pss_cons (ps_asg (pe_ix ix_tup (pv 2) (pe_un un_neg pe_int) (fun _ _ => rfl)) (pg_tup rfl (pgs_cons (pg_name (i := 8) scOne.nd rfl (Or.inl rfl)) (pgs_cons (pg_name (i := 9) scOne.nd rfl (Or.inl rfl)) pgs_nil))))
        (pss_one (ps_if (PW.pt (pw_or (pt_cmpR (op_own FE hsE hfE bE hr1) (pv 7) (pe_make MW FW hr5 (by rfl) W.mgC bW .nil passL (pa_cons (pv 1) (pa_cons (pe_slice sl_tupA (pv 2) po_none (po_some (pe_un un_neg pe_int))) pa_nil))) (nomark _))
          (pw_or1 (PW.pt (pw_and (pt_cmpR op_ne (pv 8) (pv 9) (nomark _)) (pw_and1 (pt_cmpR (op_own FE hsE hfE bE hr1) (pv 7) (pe_make MW FW hr5 (by rfl) W.mgC bW .nil passL (pa_cons (pv 1) (pa_cons (pe_op op_catA (pe_slice sl_tupA (pv 2) po_none (po_some (pe_un un_neg pe_int))) (pe_tup (pa_cons (pe_tup (pa_cons (pv 9) (pa_cons (pv 8) pa_nil))) pa_nil))) pa_nil))) (nomark _)))))))) (pss_one (ps_ret pe_bl)) pss_nil))) pss_nil)
      (C8.pss_cut (ps_if (PW.pt (pw_and (pt_cmpR op_gt (pe_callB call_len_seq (by rfl) T.len PySem.boot_len (pa_cons (pv 2) pa_nil)) pe_int (nomark _))
          (pw_and (pt_cmpR (op_neD hr.units) (pe_ix ix_tup (pv 2) pe_int (fun _ _ => rfl)) (pe_ix ix_tup (pv 2) (pe_un un_neg pe_int) (fun _ _ => rfl)) (nomark _))
          (pw_and1 (pt_cmpR (op_own FE hsE hfE bE hr1) (pv 7) (pe_make MW FW hr5 (by rfl) W.mgC bW .nil passL (pa_cons (pv 1) (pa_cons (pe_op op_catA (pe_op op_catA (pe_slice sl_tupA (pv 2) (po_some (pe_un un_neg pe_int)) po_none) (pe_slice sl_tupA (pv 2) (po_some pe_int) (po_some (pe_un un_neg pe_int)))) (pe_slice sl_tupA (pv 2) po_none (po_some pe_int))) pa_nil))) (nomark _)))))) (pss_one (ps_ret pe_bl)) pss_nil)
      (pss_cons (ps_set (i := 10) scOne.nd rfl (Or.inl rfl) (C8.pe_c cP hr (by decide) (by rfl) (pa_cons (pv 7) pa_nil)))
      (pss_one (ps_ret (pe_and (pe_callB call_isi (by rfl) T.isi (by decide +kernel) (pa_cons (pv 10) (pa_cons (pe_bltn (v := .ty "tuple") (by rfl) T.tup (by decide +kernel) rfl) pa_nil)))
        (pe_and (pe_cmpR (op_eqD hr.units) (pv 10) (C8.pe_c cL hr (by decide) (by rfl) (pa_cons (pv 1) (pa_cons (pv 2) pa_nil))) (nomark _)) (pe_one (pe_cmpR (op_eqD hr.units) (C8.pe_c cP hr (by decide) (by rfl) (pa_cons (pv 7) pa_nil)) (pv 10) (nomark _))))))))))))))))))), ?_⟩
    -- many
    refine ⟨fun σ' H' => ∃ m : Int, σ' = [some (.ref a), some (.int m), Option.none, Option.none, Option.none, Option.none, Option.none, Option.none, Option.none, Option.none, Option.none] ∧ 1 ≤ m ∧ m ≤ 8 ∧ Go a H H', ?_, ?_⟩
    · exact ⟨_, rfl, a, 8, rfl, pot, by decide, by decide, fun r1 H1 a1 b1 g1 => ⟨_, _, rfl, rfl, 1 + r1, rfl, by omega, by omega, g1⟩⟩
    rintro σ' H1 ⟨m, rfl, hm1, hm8, g1⟩
    -- arrows, part
    refine ⟨_, rfl, _, rfl, a, m, rfl, g1.1, hm1, hm8, fun r y v H2 g2 hr2 out => ?_⟩
    refine ⟨r, _, rfl, SqT.of hr2, rfl, _, _, rfl, _, _, rfl, rfl, ?_⟩
    refine ⟨_, rfl, _, rfl, _, _, rfl, ?_⟩
    have go2 := g1.trans g2
    -- first, due
    refine ⟨fun σ' H' => (∃ x v' : V, σ' = [some (.ref a), some (.int m), some y, some v, some v', some x, Option.none, Option.none, Option.none, Option.none, Option.none] ∧ Th K (Off a H') 0 x ∧ Due (Off a H') m x y v') ∧ Th K (Off a H') 2 y ∧ Go a H H', ?_, ?_⟩
    · refine ⟨_, rfl, a, 5, rfl, go2.1, by decide, by decide, fun r3 H3 a3 b3 g3 => ⟨rfl, _, rfl, ?_⟩⟩
      have du := due_of hm1 hm8 out
      have ty := out.1
      have go3 := go2.trans g3
      refine ite2 (fun _ => ?_) (fun _ => ?_)
      · refine ⟨_, rfl, 1, rfl, _, _, rfl, rfl, ⟨by decide, by decide, by decide⟩, _, rfl, a, rfl, go3.1, fun xo H4 g4 odd => ⟨by show 5 ≤ sizeLine; decide, fun l nl => ?_⟩⟩
        have g5 := Go.new (o := .lst [.int 0, .int 9, .int (-1), .int (10 ^ (11 : Int).toNat), xo]) g4.1 nl
        refine ⟨a, l, _, rfl, g5.1, (g4.1.ne nl).symm, upd_same, by simp, by show 5 ≤ 1000; decide, fun x H6 hx g6 => ⟨_, _, rfl, ?_⟩⟩
        have gA := g3.trans (g4.trans (g5.trans g6))
        have odd' : Odd K (Off a H6) xo := ⟨odd.1.ext (g5.trans g6).off, odd.2.1, fun m q => odd.2.2 m (q.lback (LExt.of (g5.trans g6).off) odd.1)⟩
        refine ⟨⟨x, .str "many", rfl, ?_⟩, ty.ext gA.off, go2.trans gA⟩
        simp only [List.mem_cons, List.not_mem_nil, or_false] at hx
        rcases hx with rfl | rfl | rfl | rfl | rfl
        · exact ⟨Th.int _, .inr (.inl ⟨fun ⟨i, e, h1, h2⟩ => by injection e with e; omega, rfl⟩)⟩
        · exact ⟨Th.int _, .inr (.inl ⟨fun ⟨i, e, h1, h2⟩ => by injection e with e; omega, rfl⟩)⟩
        · exact ⟨Th.int _, .inr (.inl ⟨fun ⟨i, e, h1, h2⟩ => by injection e with e; omega, rfl⟩)⟩
        · refine ⟨Th.int _, .inr (.inl ⟨fun ⟨i, e, h1, h2⟩ => ?_, rfl⟩)⟩
          injection e with e
          have q : (10 : Int) ^ (11 : Int).toNat = 100000000000 := by decide
          omega
        · refine ⟨odd'.1.zero, .inr (.inl ⟨fun ⟨i, e, _⟩ => ?_, rfl⟩)⟩
          have q := odd'.2.1
          rw [e] at q
          cases q
      · refine ⟨⟨.int m, v, rfl, Th.int m, ?_⟩, ty.ext g3.off, go3⟩
        rcases du with ⟨ev, ex, b, ll, ey, at0⟩ | bp
        · exact .inl ⟨ev, ex, b, ll, ey, at0.ext g3.off⟩
        · exact .inr (bp.fwd g3.off ty)
    · rintro σ' H3 ⟨⟨x, v', rfl, tx, du⟩, ty, go3⟩
      -- told
      have tx' := tx.ext (off_le (a := a))
      have ty' := ty.ext (off_le (a := a))
      have leave : ∀ H', Ext H3 H' → Go a H H' := fun H' e => go3.trans (Go.of_ext go3.1 e)
      refine ⟨_, rfl, _, rfl, x, y, rfl, tx', ty', fun m' b xs r p H4 ex h1 h8 ey hb hl az e4 hr4 hw => ?_, fun u r H4 bp e4 hr4 => ?_⟩
      · -- a Web
        rcases du with ⟨rfl, rfl, b', ll, rfl, at0⟩ | bp
        · cases ex
          cases ey
          have at4 : AT H4 m b ll := (at0.ext off_le).ext e4
          clear at0 az hl hb tx ty tx' ty' out g1 g2 go2
          refine ⟨_, rfl, rfl, _, rfl, iteF ?_⟩
          refine ⟨_, rfl, r, _, 0, _, rfl, rfl, SqT.of hr4, rfl, rfl, _, rfl, iteF ?_⟩
          obtain ⟨dx, hp⟩ := id hw
          refine ⟨_, rfl, r, _, 1, _, rfl, rfl, SqT.of hr4, rfl, _, .ref CW, .ref CW, .ref CW, _, rfl, .own CW, IW.ty hp, kit_same, _, rfl, iteF ?_⟩
          refine ⟨_, rfl, r, _, 1, _, rfl, rfl, SqT.of hr4, rfl, ?_⟩
          -- web.many, web.arrows, and the same made anew
          obtain ⟨as, hb4, pt4⟩ := id at4.1
          have ta4 : TA H4 b as ll := ⟨hb4, pt4⟩
          have hn : as.length = ll.length := PT2.len pt4
          refine ⟨_, rfl, p, CW, dx, _, _, rfl, hp, W.cl, W.nM, wf_many _ _, _, rfl, p, CW, dx, _, _, rfl, hp, W.cl, W.nA, wf_arrows _ _, by show 2 ≤ sizeLine; decide, fun t1 n1 => ⟨_, rfl, _, rfl, by show 2 ≤ sizeLine; decide, fun t2 n2 => ?_⟩⟩
          have eA : Ext H4 (upd (upd H4 t1 (.tup [.int m, .ref b])) t2 (.tup [.int m, .ref b])) := (Ext.upd n1).trans (Ext.upd n2)
          refine ⟨_, _, .tup (SqT.of (Ext.upd n2 _ _ upd_same)) (.cons (.int m) (.cons (at4.ext eA).1.dp .nil)), .tup (SqT.of upd_same) (.cons (.int m) (.cons (at4.ext eA).1.dp .nil)), shaped_md m ll, shaped_md m ll, _, rfl, ?_⟩
          rw [eqv_md]
          refine iteF ?_
          generalize upd (upd H4 t1 (.tup [.int m, .ref b])) t2 (.tup [.int m, .ref b]) = HA at *
          refine ⟨_, rfl, _, rfl, _, rfl, b, _, rfl, .inr (SqT.of (eA _ _ hb4)), fun l nl => ⟨l, _, rfl, .inl ⟨SqL.of upd_same, fun t nt => ?_⟩⟩⟩
          have eB : Ext HA (upd (upd HA l (.lst (as.map V.ref))) t (.tup (as.map V.ref))) := (Ext.upd nl).trans (Ext.upd nt)
          have taB : TA (upd (upd HA l (.lst (as.map V.ref))) t (.tup (as.map V.ref))) t as ll := ⟨upd_same, (ta4.ext (eA.trans eB)).2⟩
          refine mk_own hm1 hm8 (AT.of taB at4.2.1 at4.2.2) ?_
          intro o HB hwo eo
          refine own_web IW nfW (hw.ext (eA.trans (eB.trans eo))) (at4.ext (eA.trans (eB.trans eo))).1 hwo (taB.ext eo).tt ?_
          refine ⟨_, rfl, ?_⟩
          have eHB : Ext H4 HB := eA.trans (eB.trans eo)
          have yes : (decide (m = m) && decide (ll = ll)) = true := by simp
          rw [yes]
          refine iteF ?_
          refine ⟨_, rfl, _, rfl, _, rfl, by show 2 ≤ sizeLine; decide, fun t3 n3 => ?_⟩
          refine own_else (hw.ext (eHB.trans (Ext.upd n3))) (at4.ext (eHB.trans (Ext.upd n3))).1 (.base (.tup upd_same)) kTup nfT ?_
          refine ⟨_, rfl, iteF ?_⟩
          have e3 : Ext H4 (upd HB t3 (.tup [.int m, .ref b])) := eHB.trans (Ext.upd n3)
          generalize upd HB t3 (.tup [.int m, .ref b]) = H5 at *
          clear eA eB taB hwo eo eHB
          -- a Table, and one place more
          refine ⟨fun σ' H' => σ' = [some (.ref a), some (.int m), some (.ref b), some v, some .non, some (.int m), some (.ref r), some (.ref p), Option.none, Option.none, Option.none] ∧ Ext H4 H', ?_, ?_⟩
          · refine ⟨_, rfl, Nat.zero_le _, fun b0 nb0 o dx' no ndx nox => ?_⟩
            have gb : (upd H5 b0 (.tup [])) b0 = some (.tup []) := upd_same
            refine ⟨o, b0, dx', rfl, upd_same, by rw [upd_ne (ne_of_none gb no), upd_ne (ne_of_none gb ndx)]; exact gb, fun H6 hfs kp => ⟨rfl, ?_⟩⟩
            have e6 : Ext H4 H6 := e3.trans ((Ext.upd nb0).trans (tab_ext no ndx kp))
            obtain ⟨fs, hfs⟩ := hfs
            refine own_else (hw.ext e6) (at4.ext e6).1 (TC.is.ty hfs) TC.kw TC.nf ?_
            refine ⟨_, rfl, iteF ?_⟩
            refine ⟨_, rfl, _, _, rfl, rfl, _, rfl, ?_⟩
            refine ite2 (fun z => ?_) (fun _ => iteF ⟨rfl, e6⟩)
            have hm7 : m < 8 := of_decide_eq_true z
            refine ⟨_, rfl, _, rfl, _, _, rfl, rfl, _, rfl, ?_⟩
            refine mk_own (m := m + 1) (ll := ll) (by omega) (by omega) ⟨(at4.ext e6).1, at4.2.1, fun l hl => ?_⟩ ?_
            · obtain ⟨i, j, rfl, c1, c2, c3, c4⟩ := at4.2.2 l hl
              exact ⟨i, j, rfl, c1, by omega, c3, by omega⟩
            · intro o2 H7 hwo eo
              refine own_web IW nfW (hw.ext (e6.trans eo)) (at4.ext (e6.trans eo)).1 hwo (at4.ext (e6.trans eo)).1 ?_
              refine ⟨_, rfl, ?_⟩
              have no : (decide (m = m + 1) && decide (ll = ll)) = false := by
                rw [decide_eq_false (by omega : ¬ m = m + 1), Bool.false_and]
              rw [no]
              exact iteF ⟨rfl, e6.trans eo⟩
          · rintro σ' H6 ⟨rfl, e6⟩
            have hb6 := e6 _ _ hb4
            have ta6 := ta4.ext e6
            -- the last arrow left out, and turned about
            refine ⟨fun σ' H' => (∃ v8 v9 : Option V, σ' = [some (.ref a), some (.int m), some (.ref b), some v, some .non, some (.int m), some (.ref r), some (.ref p), v8, v9, Option.none]) ∧ Ext H4 H', ?_, ?_⟩
            · refine ⟨_, rfl, b, _, rfl, .inr (SqT.of hb6), _, _, rfl, rfl, _, rfl, ?_⟩
              refine ite2 (fun z => ?_) (fun _ => ⟨⟨_, _, rfl⟩, e6⟩)
              have pos : 0 < as.length := by
                have q := of_decide_eq_true z
                rw [List.length_map] at q
                omega
              have hla : as[as.length - 1]? = some as[as.length - 1] := List.getElem?_eq_getElem (by omega)
              obtain ⟨l0, hl0, hc0⟩ := PT2.get ta6.2 hla
              obtain ⟨p0, q0, rfl, c1, c2, c3, c4⟩ := at4.2.2 l0 (List.mem_of_getElem? hl0)
              generalize as[as.length - 1] = c0 at *
              have hlx : (as.map V.ref)[(as.map V.ref).length - 1]? = some (.ref c0) := by
                rw [List.length_map, List.getElem?_map, hla]
                rfl
              refine ⟨_, rfl, 1, rfl, b, _, -1, _, rfl, rfl, SqT.of hb6, at_m1 hlx, c0, _, rfl, SqT.of hc0, rfl, _, _, rfl, _, _, rfl, rfl, ?_⟩
              have nw : ∀ lo : Nat, ¬ (lo = 0 ∧ HT.sIx (as.map V.ref).length (as.map V.ref).length (some (-1)) = (as.map V.ref).length) := fun lo z => by
                have q := z.2
                rw [sIx_m1, List.length_map] at q
                omega
              have ell : ll = ll.take (ll.length - 1) ++ [[p0, q0]] := take_last (by rw [← hn]; exact hl0)
              refine ⟨_, rfl, _, rfl, _, rfl, 1, rfl, -1, rfl, b, _, rfl, SqT.of hb6, fun z => (nw _ z).elim, fun _ t nt => ?_⟩
              have taT := ta6.cut nt Option.none (some (-1))
              rw [sIx_m1, HT.sIx_none, List.drop_zero, List.drop_zero, Nat.sub_zero] at taT
              have eT : Ext H6 (upd H6 t (.tup (cutV (as.map V.ref) Option.none (some (-1))))) := Ext.upd nt
              generalize upd H6 t (.tup (cutV (as.map V.ref) Option.none (some (-1)))) = H7 at *
              refine mk_own hm1 hm8 (AT.of taT (by rw [List.length_take]; have := at4.2.1; omega) fun l hl => at4.2.2 l (List.mem_of_mem_take hl)) ?_
              intro o H8 hwo eo
              refine own_web IW nfW (hw.ext (e6.trans (eT.trans eo))) (at4.ext (e6.trans (eT.trans eo))).1 hwo (taT.ext eo).tt ?_
              refine ⟨_, rfl, ?_⟩
              have e8 : Ext H4 H8 := e6.trans (eT.trans eo)
              have no : (decide (m = m) && decide (ll = ll.take (as.length - 1))) = false := by
                rw [decide_eq_false (p := ll = ll.take (as.length - 1)), Bool.and_false]
                intro e
                have q := congrArg List.length e
                rw [List.length_take] at q
                omega
              rw [no]
              refine iteF ?_
              refine ⟨_, rfl, _, rfl, rfl, _, rfl, ?_⟩
              refine ite2 (fun z => ?_) (fun _ => iteF ⟨⟨_, _, rfl⟩, e8⟩)
              have npq : p0 ≠ q0 := fun e => by
                rw [e] at z
                simp at z
              have ta8 := ta4.ext e8
              refine ⟨_, rfl, _, rfl, _, rfl, 1, rfl, -1, rfl, b, _, rfl, SqT.of ta8.1, fun z => (nw _ z).elim, fun _ t8 nt8 => ?_⟩
              have taT8 := ta8.cut nt8 Option.none (some (-1))
              rw [sIx_m1, HT.sIx_none, List.drop_zero, List.drop_zero, Nat.sub_zero] at taT8
              have eT8 : Ext H8 (upd H8 t8 (.tup (cutV (as.map V.ref) Option.none (some (-1))))) := Ext.upd nt8
              generalize upd H8 t8 (.tup (cutV (as.map V.ref) Option.none (some (-1)))) = H9 at *
              refine ⟨_, rfl, _, rfl, by show 2 ≤ sizeLine; decide, fun u nu => ⟨by show 1 ≤ sizeLine; decide, fun u2 nu2 => ?_⟩⟩
              have eU : Ext H9 (upd (upd H9 u (.tup [.int q0, .int p0])) u2 (.tup [.ref u])) := (Ext.upd nu).trans (Ext.upd nu2)
              have taU : TA (upd (upd H9 u (.tup [.int q0, .int p0])) u2 (.tup [.ref u])) u2 [u] [[q0, p0]] := ⟨upd_same, .cons (Ext.upd nu2 _ _ upd_same) .nil⟩
              have taT9 := taT8.ext eU
              generalize upd (upd H9 u (.tup [.int q0, .int p0])) u2 (.tup [.ref u]) = HU at *
              have e9 : Ext H4 HU := e8.trans (eT8.trans eU)
              have arT : ∀ l ∈ ll.take (as.length - 1) ++ [[q0, p0]], ArrL m l := fun l hl => by
                rcases List.mem_append.mp hl with hl | hl
                · exact at4.2.2 l (List.mem_of_mem_take hl)
                · rw [List.mem_singleton.mp hl]
                  exact ⟨q0, p0, rfl, c3, c4, c1, c2⟩
              have leT : (ll.take (as.length - 1) ++ [[q0, p0]]).length ≤ 12 := by
                rw [List.length_append, List.length_take]
                have := at4.2.1
                show min (as.length - 1) ll.length + 1 ≤ 12
                omega
              -- both ways of the sum of tuples
              have last : ∀ (w' : Addr) (cs : List Addr) (HW : Hp), Ext HU HW → TA HW w' cs (ll.take (as.length - 1) ++ [[q0, p0]]) → ∀ (R : VK), (∀ H', Ext H4 H' → R (.bl false) H') →
                  ∀ o dx, HW o = Option.none → HW dx = Option.none → dx ≠ o → spWebI K CW CB (.ref o :: ([.int m, .ref w'] ++ [])) (upd (upd HW dx (.own o)) o (.ins CW dx [])) (fun v H2 => v = .non ∧ rOwn K CW (spEqW K CW) (.ref p) (.ref o) H2 R) E0 := by
                intro w' cs HW eW taW R hR
                refine mk_own hm1 hm8 (AT.of taW leT arT) ?_
                intro o HX hwo eo
                refine own_web IW nfW (hw.ext (e9.trans (eW.trans eo))) (at4.ext (e9.trans (eW.trans eo))).1 hwo (taW.ext eo).tt ?_
                have no : (decide (m = m) && decide (ll = ll.take (as.length - 1) ++ [[q0, p0]])) = false := by
                  rw [decide_eq_false (p := ll = ll.take (as.length - 1) ++ [[q0, p0]]), Bool.and_false]
                  intro e
                  rw [hn] at e
                  have q := List.append_cancel_left (ell.symm.trans e)
                  cases q
                  exact npq rfl
                rw [no]
                exact hR HX (e9.trans (eW.trans eo))
              refine ⟨t8, u2, _, _, rfl, rfl, SqT.of taT9.1, SqT.of taU.1, ?_, fun z => ?_, fun _ z => absurd z (by simp), fun _ _ w' nw' => ?_⟩
              · rw [List.length_map, List.length_map, List.length_take]
                have := at4.2.1
                exact Nat.le_trans (show min (as.length - 1) as.length + 1 ≤ 1000 by omega) (Nat.le_of_lt (small1000 (Nat.le_refl _)))
              · have z' : ll.take (as.length - 1) = [] := by
                  have q := PT2.len taT9.2
                  have z2 : (as.take (as.length - 1)).length = 0 := by
                    have := congrArg List.length z
                    rw [List.length_map] at this
                    exact this
                  exact List.eq_nil_of_length_eq_zero (by omega)
                refine last u2 [u] HU Ext.rfl' (by rw [z']; exact taU) _ fun H' e' => ?_
                refine ⟨_, rfl, iteF ⟨⟨_, _, rfl⟩, e'⟩⟩
              · refine last w' _ _ (Ext.upd nw') (taT9.cat taU nw') _ fun H' e' => ?_
                refine ⟨_, rfl, iteF ⟨⟨_, _, rfl⟩, e'⟩⟩
            · rintro σ' H8 ⟨⟨v8, v9, rfl⟩, e8⟩
              have ta8 := ta4.ext e8
              have hb8 := ta8.1
              -- the first and the last changed about
              refine ⟨fun σ' H' => σ' = [some (.ref a), some (.int m), some (.ref b), some v, some .non, some (.int m), some (.ref r), some (.ref p), v8, v9, Option.none] ∧ Ext H4 H', ?_, ?_⟩
              · refine ⟨_, rfl, b, _, rfl, .inr (SqT.of hb8), _, _, rfl, rfl, _, rfl, ?_⟩
                refine ite2 (fun z => ?_) (fun _ => iteF ⟨rfl, e8⟩)
                have big : 1 < as.length := by
                  have q := of_decide_eq_true z
                  rw [List.length_map] at q
                  omega
                have le12 := at4.2.1
                have hf : as[0]? = some as[0] := List.getElem?_eq_getElem (by omega)
                have hz : as[as.length - 1]? = some as[as.length - 1] := List.getElem?_eq_getElem (by omega)
                generalize as[as.length - 1] = cz at *
                generalize as[0] = cf at *
                obtain ⟨lf, hlf, hcf⟩ := PT2.get ta8.2 hf
                obtain ⟨lz, hlz, hcz⟩ := PT2.get ta8.2 hz
                have hfx : (as.map V.ref)[0]? = some (.ref cf) := by
                  rw [List.getElem?_map, hf]
                  rfl
                have hzx : (as.map V.ref)[(as.map V.ref).length - 1]? = some (.ref cz) := by
                  rw [List.length_map, List.getElem?_map, hz]
                  rfl
                refine ⟨_, rfl, b, _, 0, _, rfl, rfl, SqT.of hb8, at_0 hfx, _, rfl, 1, rfl, b, _, -1, _, rfl, rfl, SqT.of hb8, at_m1 hzx, ?_⟩
                refine ⟨_, _, dp_pair hcf, dp_pair hcz, shaped_l lf, shaped_l lz, _, rfl, ?_⟩
                rw [eqv_pairs]
                refine ite2 (fun z => ?_) (fun _ => iteF ⟨rfl, e8⟩)
                have nfz : lf ≠ lz := fun e => by
                  rw [decide_eq_true e] at z
                  cases z
                have last : ∀ (w' : Addr) (cs : List Addr) (rs : List (List Int)) (HW : Hp), Ext H4 HW → TA HW w' cs (lz :: rs) → (∀ l ∈ rs, l ∈ ll) → rs.length + 1 ≤ 12 → ∀ (R : VK), (∀ H', Ext H4 H' → R (.bl false) H') →
                    ∀ o dx, HW o = Option.none → HW dx = Option.none → dx ≠ o → spWebI K CW CB (.ref o :: ([.int m, .ref w'] ++ [])) (upd (upd HW dx (.own o)) o (.ins CW dx [])) (fun v H2 => v = .non ∧ rOwn K CW (spEqW K CW) (.ref p) (.ref o) H2 R) E0 := by
                  intro w' cs rs HW eW taW ar le R hR
                  refine mk_own hm1 hm8 (AT.of taW le fun l hl => at4.2.2 l ?_) ?_
                  · rcases List.mem_cons.mp hl with rfl | hl
                    · exact List.mem_of_getElem? hlz
                    · exact ar l hl
                  · intro o HX hwo eo
                    refine own_web IW nfW (hw.ext (eW.trans eo)) (at4.ext (eW.trans eo)).1 hwo (taW.ext eo).tt ?_
                    have no : (decide (m = m) && decide (ll = lz :: rs)) = false := by
                      rw [decide_eq_false (p := ll = lz :: rs), Bool.and_false]
                      intro e
                      rw [e] at hlf
                      cases hlf
                      exact nfz rfl
                    rw [no]
                    exact hR HX (eW.trans eo)
                -- the three cuts
                refine ⟨_, rfl, _, rfl, _, rfl, 1, rfl, -1, rfl, b, _, rfl, SqT.of hb8, fun z => ?_, fun _ t1 n1 => ?_⟩
                · have q := z.1
                  rw [sIx_m1, List.length_map] at q
                  omega
                have a1 := ta8.cut n1 (some (-1)) Option.none
                rw [sIx_m1, HT.sIx_none, drop_last rfl hz, drop_last hn.symm hlz] at a1
                have e1 : Ext H4 (upd H8 t1 (.tup (cutV (as.map V.ref) (some (-1)) Option.none))) := e8.trans (Ext.upd n1)
                generalize upd H8 t1 (.tup (cutV (as.map V.ref) (some (-1)) Option.none)) = H9 at *
                refine ⟨_, rfl, 1, rfl, 1, rfl, -1, rfl, b, _, rfl, SqT.of (ta4.ext e1).1, fun z => ?_, fun _ t2 n2 => ?_⟩
                · have q := z.1
                  rw [sIx_1, List.length_map] at q
                  omega
                have a2 := (ta4.ext e1).cut n2 (some 1) (some (-1))
                rw [sIx_m1, sIx_1] at a2
                have e2 : Ext H4 (upd H9 t2 (.tup (cutV (as.map V.ref) (some 1) (some (-1))))) := e1.trans (Ext.upd n2)
                have a1' := a1.ext (Ext.upd n2 : Ext H9 (upd H9 t2 (.tup (cutV (as.map V.ref) (some 1) (some (-1))))))
                generalize upd H9 t2 (.tup (cutV (as.map V.ref) (some 1) (some (-1)))) = H10 at *
                have l2 := PT2.len a2.2
                rw [List.length_take, List.length_drop] at l2
                refine ⟨t1, t2, _, _, rfl, rfl, SqT.of a1'.1, SqT.of a2.1, ?_, fun z => ?_, fun _ z2 => ?_, fun _ _ w1 nw1 => ?_⟩
                · simp only [List.length_map, List.length_take, List.length_drop, List.length_singleton]
                  exact Nat.le_trans (show _ ≤ 1000 by omega) (Nat.le_of_lt (small1000 (Nat.le_refl _)))
                · cases z
                · have eS := e2
                  have taS := a1'
                  have mS : ∀ l ∈ ([] : List (List Int)), l ∈ ll := fun l hl => nomatch hl
                  have lS : ([] : List (List Int)).length + 2 ≤ ll.length := by
                    show 0 + 2 ≤ _
                    omega
                  generalize ([] : List (List Int)) = rsX at *
                  generalize [cz] = csX at *
                  generalize t1 = tX at *
                  generalize H10 = HS at *
                  refine ⟨_, rfl, 1, rfl, b, _, rfl, SqT.of (ta4.ext eS).1, fun z => ?_, fun _ t3 n3 => ?_⟩
                  · have q := z.2
                    rw [sIx_1, List.length_map] at q
                    omega
                  have a3 := (ta4.ext eS).cut n3 Option.none (some 1)
                  rw [sIx_1, HT.sIx_none, List.drop_zero, List.drop_zero, Nat.sub_zero] at a3
                  have e3 : Ext H4 (upd HS t3 (.tup (cutV (as.map V.ref) Option.none (some 1)))) := eS.trans (Ext.upd n3)
                  have tS3 := taS.ext (Ext.upd n3 : Ext HS (upd HS t3 (.tup (cutV (as.map V.ref) Option.none (some 1)))))
                  generalize upd HS t3 (.tup (cutV (as.map V.ref) Option.none (some 1))) = HU at *
                  have ln := PT2.len tS3.2
                  have l3 := PT2.len a3.2
                  rw [List.length_cons] at ln
                  rw [List.length_take] at l3
                  refine ⟨tX, t3, _, _, rfl, rfl, SqT.of tS3.1, SqT.of a3.1, ?_, fun z => ?_, fun _ z => ?_, fun _ _ w2 nw2 => ?_⟩
                  · simp only [List.length_map, List.length_take, List.length_drop]
                    exact Nat.le_trans (show _ ≤ 1000 by omega) (Nat.le_of_lt (small1000 (Nat.le_refl _)))
                  · have q := congrArg List.length z
                    rw [List.length_map] at q
                    have q2 : csX.length = 0 := q
                    omega
                  · have q := congrArg List.length z
                    rw [List.length_map] at q
                    have q2 : (as.take (min 1 as.length)).length = 0 := q
                    rw [List.length_take] at q2
                    omega
                  · refine last w2 _ (rsX ++ ll.take (min 1 as.length)) _ (e3.trans (Ext.upd nw2)) (tS3.cat a3 nw2) (fun l hl => ?_) ?_ _ fun H' e' => ?_
                    · rcases List.mem_append.mp hl with hl | hl
                      · exact mS l hl
                      · exact List.mem_of_mem_take hl
                    · rw [List.length_append, List.length_take]
                      omega
                    · exact ⟨_, rfl, iteF ⟨rfl, e'⟩⟩
                · have eS := e2.trans (Ext.upd nw1 : Ext H10 (upd H10 w1 (.tup ([cz].map V.ref ++ ((as.drop (min 1 as.length)).take (as.length - 1 - min 1 as.length)).map V.ref))))
                  have taS := a1'.cat a2 nw1
                  have mS : ∀ l ∈ (ll.drop (min 1 as.length)).take (as.length - 1 - min 1 as.length), l ∈ ll := fun l hl => List.mem_of_mem_drop (List.mem_of_mem_take hl)
                  have lS : ((ll.drop (min 1 as.length)).take (as.length - 1 - min 1 as.length)).length + 2 ≤ ll.length := by
                    rw [List.length_take, List.length_drop]
                    omega
                  generalize upd H10 w1 _ = HS at *
                  generalize [cz] ++ (as.drop (min 1 as.length)).take (as.length - 1 - min 1 as.length) = csX at *
                  replace taS : TA HS w1 csX (lz :: (ll.drop (min 1 as.length)).take (as.length - 1 - min 1 as.length)) := taS
                  generalize (ll.drop (min 1 as.length)).take (as.length - 1 - min 1 as.length) = rsX at *
                  generalize w1 = tX at *
                  refine ⟨_, rfl, 1, rfl, b, _, rfl, SqT.of (ta4.ext eS).1, fun z => ?_, fun _ t3 n3 => ?_⟩
                  · have q := z.2
                    rw [sIx_1, List.length_map] at q
                    omega
                  have a3 := (ta4.ext eS).cut n3 Option.none (some 1)
                  rw [sIx_1, HT.sIx_none, List.drop_zero, List.drop_zero, Nat.sub_zero] at a3
                  have e3 : Ext H4 (upd HS t3 (.tup (cutV (as.map V.ref) Option.none (some 1)))) := eS.trans (Ext.upd n3)
                  have tS3 := taS.ext (Ext.upd n3 : Ext HS (upd HS t3 (.tup (cutV (as.map V.ref) Option.none (some 1)))))
                  generalize upd HS t3 (.tup (cutV (as.map V.ref) Option.none (some 1))) = HU at *
                  have ln := PT2.len tS3.2
                  have l3 := PT2.len a3.2
                  rw [List.length_cons] at ln
                  rw [List.length_take] at l3
                  refine ⟨tX, t3, _, _, rfl, rfl, SqT.of tS3.1, SqT.of a3.1, ?_, fun z => ?_, fun _ z => ?_, fun _ _ w2 nw2 => ?_⟩
                  · simp only [List.length_map, List.length_take, List.length_drop]
                    exact Nat.le_trans (show _ ≤ 1000 by omega) (Nat.le_of_lt (small1000 (Nat.le_refl _)))
                  · have q := congrArg List.length z
                    rw [List.length_map] at q
                    have q2 : csX.length = 0 := q
                    omega
                  · have q := congrArg List.length z
                    rw [List.length_map] at q
                    have q2 : (as.take (min 1 as.length)).length = 0 := q
                    rw [List.length_take] at q2
                    omega
                  · refine last w2 _ (rsX ++ ll.take (min 1 as.length)) _ (e3.trans (Ext.upd nw2)) (tS3.cat a3 nw2) (fun l hl => ?_) ?_ _ fun H' e' => ?_
                    · rcases List.mem_append.mp hl with hl | hl
                      · exact mS l hl
                      · exact List.mem_of_mem_take hl
                    · rw [List.length_append, List.length_take]
                      omega
                    · exact ⟨_, rfl, iteF ⟨rfl, e'⟩⟩
              · rintro σ' H9 ⟨rfl, e9⟩
                have hb9 := ta4.ext e9
                obtain ⟨A, eA, ins⟩ := arrows_of at4.2.2
                have em : m = (m.toNat : Int) := by omega
                have le12 : A.length ≤ 12 := by
                  have q := at4.2.1
                  rw [eA, List.length_map] at q
                  exact q
                generalize m.toNat = M at *
                subst em
                subst eA
                have hM : M ≤ 8 := by omega
                refine ⟨_, rfl, p, b, M, A, rfl, hw.ext e9, hb9.tt, hM, le12, ins, fun q1 HA eA1 tq => ?_⟩
                obtain ⟨qs, hq, pq⟩ := id tq
                refine ⟨_, rfl, .ref q1, .ty "tuple", _, .type "tuple", true, rfl, .ty _, .base (.tup hq), kit_ty (by decide +kernel), _, rfl, iteT ?_⟩
                refine ⟨_, rfl, _, rfl, _, rfl, b, M, A, rfl, (hb9.ext eA1).tt, hM, le12, ins, fun q2 HB eB tq2 => ?_⟩
                refine ⟨_, _, (tq.ext eB).dp, tq2.dp, shaped_dT _, shaped_dT _, _, rfl, ?_⟩
                rw [eqv_dT, decide_eq_true rfl]
                refine iteT ?_
                refine ⟨_, rfl, p, b, M, A, rfl, hw.ext (e9.trans (eA1.trans eB)), (hb9.ext (eA1.trans eB)).tt, hM, le12, ins, fun q3 HC eC tq3 => ⟨_, rfl, ?_⟩⟩
                refine ⟨_, _, tq3.dp, (tq.ext (eB.trans eC)).dp, shaped_dT _, shaped_dT _, ?_⟩
                rw [eqv_dT, decide_eq_true rfl]
                exact k _ (leave _ (e4.trans (e9.trans (eA1.trans (eB.trans eC)))))
        · obtain ⟨c, e⟩ : ∃ c, c = 1 := ⟨1, rfl⟩
          have bp' := bp.fwd off_le ty
          subst ex
          subst ey
          exact (bp'.none h1 h8 hb hl az).elim
      · -- what BadWeb tells
        have ev : v' = u ∧ (v' = .str "many" ∨ v' = .str "arrows" ∨ ∃ k : Int, v' = .int k) := by
          rcases du with ⟨rfl, rfl, b', ll, rfl, at0⟩ | bp0
          · obtain ⟨as, hb, _⟩ := id (at0.ext (off_le (a := a))).1
            obtain ⟨hl, az⟩ := (at0.ext (off_le (a := a))).arr hb
            exact (bp.none hm1 hm8 hb hl az).elim
          · exact ⟨(bp0.fwd off_le ty).uniq bp, bp0.kind⟩
        obtain ⟨rfl, kd⟩ := ev
        obtain ⟨t, b, d, tyv, kb, dv, sh, eq⟩ := kind_str (K := K) (H := H4) kd
        have nn : v' ≠ .non := by rcases kd with rfl | rfl | ⟨k, rfl⟩ <;> exact fun z => nomatch z
        refine ⟨_, rfl, rfl, _, rfl, ?_⟩
        rw [decide_eq_false nn]
        refine iteT ?_
        refine ⟨_, rfl, _, rfl, by show 2 ≤ sizeLine; decide, fun q nq => ?_⟩
        have e5 : Ext H4 (upd H4 q (.tup [.str "bad", v'])) := Ext.upd nq
        have dv5 : Dp K (upd H4 q (.tup [.str "bad", v'])) v' d := by
          rcases kd with rfl | rfl | ⟨k, rfl⟩
          · cases dv; exact .str _
          · cases dv; exact .str _
          · cases dv; exact .int _
        refine ⟨_, _, .tup (SqT.of (e5 _ _ hr4)) (.cons (.str _) (.cons dv5 .nil)), .tup (SqT.of upd_same) (.cons (.str _) (.cons dv5 .nil)), sh, sh, _, rfl, ?_⟩
        rw [eq]
        refine iteT ?_
        refine ⟨_, rfl, r, _, 1, _, rfl, rfl, SqT.of (e5 _ _ hr4), rfl, v', .ty "str", t, .type "str", b, rfl, .ty _, TyX.ext tyv e5, kb, ?_⟩
        refine ⟨_, rfl, v', .ty "str", t, .type "str", b, rfl, .ty _, TyX.ext tyv e5, kb, rfl, ?_⟩
        rw [decide_eq_true rfl]
        exact k _ (leave _ (e4.trans e5))
end
end K9
set_option Elab.async false
set_option linter.all false
set_option maxRecDepth 100000
set_option maxHeartbeats 4000000
namespace K9
open PySem L2 K9M
abbrev sLaw : Stmt := top 30
/-- law's promise: a list of at most 63 ints is handed in, True comes out -/
def spLaw (K : PySem.W.Frag) : Sp := fun vs H Q _ => ∃ (a : Addr) (ns : List Int), vs = [.ref a] ∧ SqL K H a (ns.map V.int) ∧ ns.length ≤ 63 ∧ ∀ H', Q (.bl true) H'
section
variable {P : Program} {w : World} {K : PySem.W.Frag} {mg : Str → Option Value} {base : Heap}
theorem scLaw : FnScope ["script", "pot", "turn"] ["script"] (defScope sLaw) := ⟨rfl, rfl, rfl, by decide +kernel, rfl, by decide +kernel, by decide +kernel⟩
theorem ok_law {f : Addr} {fd : FuncData} (F : L2.Fun K "law" "law" sLaw f fd) (T : Gb mg) (cP : Cal P w K mg base 1 "_law_pot" (spPot K) []) (cO : Cal P w K mg base 7 "_law_one" spOne []) : FnOk P w K mg base CX0 8 f fd ["script"] (spLaw K) := by
  refine F.ok scLaw (fun vs H Q E h => ?_) (fun cdv A outer s H vs Q E hr h => ?_)
  · obtain ⟨a, ns, rfl, _⟩ := h
    rfl
  · obtain ⟨a, ns, rfl, hS, hlen, k⟩ := h
    refine ⟨_, pss_cons (ps_set (i := 1) scLaw.nd rfl (Or.inr rfl) (C8.pe_c cP hr (by decide) (by rfl) (pa_cons (pv 0) pa_nil)))
      (pss_one (ps_ret (pe_callB (cr_all rfl) (by rfl) T.all (by decide +kernel) (pa_cons (pe_lc (own := [("turn", 2)]) (g := gName 2) (tt := tYes) rfl scLaw.nd (pi_range1 (by rfl) T.rng (pa_cons pe_int pa_nil)) (blkOk_by (N := ["script", "pot", "turn"]) (sc := defScope sLaw) (by decide +kernel))
        (fun _ _ _ _ _ => pg_name (i := 2) scLaw.nd rfl (Or.inl rfl)) (fun _ _ _ _ _ => pts_nil) (fun _ _ _ _ _ => C8.pe_c cO hr (by decide) (by rfl) (pa_cons (pv 1) pa_nil))) pa_nil)))), ?_⟩
    refine ⟨_, rfl, a, ns, rfl, hS, hlen, fun r H1 e1 pot => ?_⟩
    refine ⟨12, rfl, by decide, by decide, fun D nD => ?_⟩
    have nDr : D ≠ r := fun e => by
      obtain ⟨c, ns', i, z, s, n, h1, h2⟩ := pot
      rw [← e, nD] at h1
      cases h1
    refine lc_range (lo := 0) (n := 12) (fun i H' => PotAt H' r ∧ H' D = some (.lst (List.replicate i (.bl true))) ∧ ∃ c xs, H' r = some (.lst (.ref c :: xs)) ∧ c ≠ D) ?_ ?_ ?_
    · obtain ⟨c, ns', i, z, s, n, h1, h2⟩ := pot
      exact ⟨⟨c, ns', i, z, s, n, by rw [upd_ne (ne_of_none h1 nD)]; exact h1, by rw [upd_ne (ne_of_none h2 nD)]; exact h2⟩, upd_same, c, _, by rw [upd_ne (ne_of_none h1 nD)]; exact h1, ne_of_none h2 nD⟩
    · rintro i H' hi ⟨pt, hD, c, xs, hc, ncD⟩
      refine ⟨rfl, tyes_in ?_⟩
      refine ⟨_, rfl, r, rfl, pt, fun H2 g => ?_⟩
      obtain ⟨ys, hc2⟩ := g.cell c xs hc
      obtain ⟨c', ns', i', z, s, n, h1, h2⟩ := g.1
      have ec : c' = c := by
        rw [hc2] at h1
        cases h1
        rfl
      subst ec
      refine ⟨_, g.2 _ _ nDr hD, by rw [List.length_replicate]; exact small1000 (by omega), ⟨c', ns', i', z, s, n, by rw [upd_ne nDr.symm]; exact h1, by rw [upd_ne ncD]; exact h2⟩, ?_, c', _, by rw [upd_ne nDr.symm]; exact h1, ncD⟩
      rw [upd_same, ← List.replicate_succ']
    · rintro H' ⟨pt, hD, _⟩
      refine ⟨D, List.replicate 12 true, rfl, SqL.of ?_, k _⟩
      rw [hD, List.map_replicate]
end
end K9
set_option Elab.async false
set_option linter.all false
set_option maxRecDepth 100000
set_option maxHeartbeats 8000000
namespace K9
open PySem L2 K9M
/-! ### What the top has written -/
theorem exm_self {K : PySem.W.Frag} {S : Addr} (h1 : PySem.W.subIn K (.ref S) (.type "BaseException") = some true) (h2 : PySem.W.isClsIn K S = true) (h3 : PySem.W.typeIn K (.ref S) = some (.type "type")) (h4 : PySem.W.subIn K (.ref S) (.ref S) = some true) :
    PySem.W.exmOne K (.ref S) (.ref S) = some true := by
  have h2' : (PySem.W.clsIn K S).isSome = true := h2
  unfold PySem.W.exmOne PySem.W.kitCls
  simp only [h1, h2', h3, h4, beq_self_eq_true, Bool.and_self, if_true]
theorem kit_ref {K : PySem.W.Frag} {t : Value} {C : Addr} {b : Bool} (h2 : PySem.W.isClsIn K C = true) (h3 : PySem.W.typeIn K (.ref C) = some (.type "type")) (h4 : PySem.W.subIn K (.ref C) (.ref C) = some true) (h5 : PySem.W.subIn K t (.ref C) = some b) :
    PySem.W.kitOne K t (.ref C) = some b := by
  have h2' : (PySem.W.clsIn K C).isSome = true := h2
  unfold PySem.W.kitOne PySem.W.kitCls
  by_cases e : (t == .ref C) = true
  · have e' := beq_iff_eq.mp e
    subst e'
    rw [h4] at h5
    rw [if_pos e, ← h5]
  · rw [if_neg e]
    simp only [h2', h3, h5, beq_self_eq_true, Bool.and_self, if_true]
theorem kit_tyc {K : PySem.W.Frag} {C : Addr} {s : String} {b : Bool} (h : PySem.W.kitMeta s = true) (h5 : PySem.W.subIn K (.ref C) (.type s) = some b) : PySem.W.kitOne K (.ref C) (.type s) = some b := by
  unfold PySem.W.kitOne PySem.W.kitCls
  rw [if_neg (by intro z; exact nomatch beq_iff_eq.mp z)]
  simp only [h, h5, if_true]
theorem all_mk {l : PySem.W.OpenLaw} {w : World} {K : PySem.W.Frag} {h : Heap} {mg : Str → Option Value} {fa CB CW CT CE CP CS aP : Addr} {f2 f3 f4 f15 f16 f21 f22 f23 f24 f25 f26 f27 f28 f29 f30 fB fW fE fT : Addr} (X : K.In h) (G : h.Ns mainGlobals mg) (hfa : mg "law" = some (.ref fa))
    {od2 an2 od3 an3 od4 an4 od15 an15 od16 an16 od21 an21 od22 an22 od23 an23 od24 an24 od25 an25 od26 an26 od27 an27 od28 an28 od29 an29 od30 an30 odB anB odW anW odE anE odT anT : Option Addr} {sl2 sl3 sl4 sl15 sl16 sl21 sl22 sl23 sl24 sl25 sl26 sl27 sl28 sl29 sl30 slB slW slE slT : Array (Option Value)}
    {oc2 kV2 dc2 pm2 cd2 ct2 oc3 kV3 dc3 pm3 cd3 ct3 oc4 kV4 dc4 pm4 cd4 ct4 oc15 kV15 dc15 pm15 cd15 ct15 oc16 kV16 dc16 pm16 cd16 ct16 oc21 kV21 dc21 pm21 cd21 ct21 oc22 kV22 dc22 pm22 cd22 ct22 oc23 kV23 dc23 pm23 cd23 ct23 oc24 kV24 dc24 pm24 cd24 ct24 oc25 kV25 dc25 pm25 cd25 ct25 oc26 kV26 dc26 pm26 cd26 ct26 oc27 kV27 dc27 pm27 cd27 ct27 oc28 kV28 dc28 pm28 cd28 ct28 oc29 kV29 dc29 pm29 cd29 ct29 oc30 kV30 dc30 pm30 cd30 ct30 ocB kVB dcB pmB cdB ctB ocW kVW dcW pmW cdW ctW ocE kVE dcE pmE cdE ctE ocT kVT dcT pmT cdT ctT : Value}
    {nm q : Str} {N : Addr} {bs bm : List Value} {sn : List Str} {sub : List Value} {ab : Bool} {col : Option Bool} {dd : Option Addr} {m0 m1 m2 m3 m5 : Option Value} {t8 t12 tM} {odP : Option Addr} {slP : Array (Option Value)} {itsP : Array Value} {nP : Nat}
    (gCB : PySem.W.nsIn K mainGlobals "BadWeb" = some (some (.ref CB)))
    (gCW : PySem.W.nsIn K mainGlobals "Web" = some (some (.ref CW)))
    (gCT : PySem.W.nsIn K mainGlobals "Table" = some (some (.ref CT)))
    (gCE : PySem.W.nsIn K mainGlobals "WebError" = some (some (.ref CE)))
    (gCP : PySem.W.nsIn K mainGlobals "BadPicture" = some (some (.ref CP)))
    (gCS : PySem.W.nsIn K mainGlobals "BadTable" = some (some (.ref CS)))
    (a2 : PySem.W.nsIn K mainGlobals "is_integer" = some (some (.ref f2)))
    (l2 : K.lookup f2 = some ⟨oc2, od2, .func (PySem.W.fnOf "is_integer" "is_integer" (defArgs sInteger) (defBody sInteger) (defScope sInteger) .none kV2 dc2 pm2 an2 cd2 ct2), sl2⟩)
    (c2 : PySem.W.codeIn K cd2 "is_integer" = true)
    (k2 : PySem.W.keepIn K (.ref f2) = true)
    (a3 : PySem.W.nsIn K mainGlobals "is_number" = some (some (.ref f3)))
    (l3 : K.lookup f3 = some ⟨oc3, od3, .func (PySem.W.fnOf "is_number" "is_number" (defArgs sNumber) (defBody sNumber) (defScope sNumber) .none kV3 dc3 pm3 an3 cd3 ct3), sl3⟩)
    (c3 : PySem.W.codeIn K cd3 "is_number" = true)
    (k3 : PySem.W.keepIn K (.ref f3) = true)
    (a4 : PySem.W.nsIn K mainGlobals "is_prime" = some (some (.ref f4)))
    (l4 : K.lookup f4 = some ⟨oc4, od4, .func (PySem.W.fnOf "is_prime" "is_prime" (defArgs sPrime) (defBody sPrime) (defScope sPrime) .none kV4 dc4 pm4 an4 cd4 ct4), sl4⟩)
    (c4 : PySem.W.codeIn K cd4 "is_prime" = true)
    (k4 : PySem.W.keepIn K (.ref f4) = true)
    (a15 : PySem.W.nsIn K mainGlobals "is_arrow" = some (some (.ref f15)))
    (l15 : K.lookup f15 = some ⟨oc15, od15, .func (PySem.W.fnOf "is_arrow" "is_arrow" (defArgs sArrow) (defBody sArrow) (defScope sArrow) .none kV15 dc15 pm15 an15 cd15 ct15), sl15⟩)
    (c15 : PySem.W.codeIn K cd15 "is_arrow" = true)
    (k15 : PySem.W.keepIn K (.ref f15) = true)
    (a16 : PySem.W.nsIn K mainGlobals "parts" = some (some (.ref f16)))
    (l16 : K.lookup f16 = some ⟨oc16, od16, .func (PySem.W.fnOf "parts" "parts" (defArgs sParts) (defBody sParts) (defScope sParts) .none kV16 dc16 pm16 an16 cd16 ct16), sl16⟩)
    (c16 : PySem.W.codeIn K cd16 "parts" = true)
    (k16 : PySem.W.keepIn K (.ref f16) = true)
    (a21 : PySem.W.nsIn K mainGlobals "_law_pot" = some (some (.ref f21)))
    (l21 : K.lookup f21 = some ⟨oc21, od21, .func (PySem.W.fnOf "_law_pot" "_law_pot" (defArgs sPot) (defBody sPot) (defScope sPot) .none kV21 dc21 pm21 an21 cd21 ct21), sl21⟩)
    (c21 : PySem.W.codeIn K cd21 "_law_pot" = true)
    (k21 : PySem.W.keepIn K (.ref f21) = true)
    (a22 : PySem.W.nsIn K mainGlobals "_law_draw" = some (some (.ref f22)))
    (l22 : K.lookup f22 = some ⟨oc22, od22, .func (PySem.W.fnOf "_law_draw" "_law_draw" (defArgs sDraw) (defBody sDraw) (defScope sDraw) .none kV22 dc22 pm22 an22 cd22 ct22), sl22⟩)
    (c22 : PySem.W.codeIn K cd22 "_law_draw" = true)
    (k22 : PySem.W.keepIn K (.ref f22) = true)
    (a23 : PySem.W.nsIn K mainGlobals "_law_any" = some (some (.ref f23)))
    (l23 : K.lookup f23 = some ⟨oc23, od23, .func (PySem.W.fnOf "_law_any" "_law_any" (defArgs sAny) (defBody sAny) (defScope sAny) .none kV23 dc23 pm23 an23 cd23 ct23), sl23⟩)
    (c23 : PySem.W.codeIn K cd23 "_law_any" = true)
    (k23 : PySem.W.keepIn K (.ref f23) = true)
    (a24 : PySem.W.nsIn K mainGlobals "_law_odd" = some (some (.ref f24)))
    (l24 : K.lookup f24 = some ⟨oc24, od24, .func (PySem.W.fnOf "_law_odd" "_law_odd" (defArgs sOdd) (defBody sOdd) (defScope sOdd) .none kV24 dc24 pm24 an24 cd24 ct24), sl24⟩)
    (c24 : PySem.W.codeIn K cd24 "_law_odd" = true)
    (k24 : PySem.W.keepIn K (.ref f24) = true)
    (a25 : PySem.W.nsIn K mainGlobals "_law_pair" = some (some (.ref f25)))
    (l25 : K.lookup f25 = some ⟨oc25, od25, .func (PySem.W.fnOf "_law_pair" "_law_pair" (defArgs sPair) (defBody sPair) (defScope sPair) .none kV25 dc25 pm25 an25 cd25 ct25), sl25⟩)
    (c25 : PySem.W.codeIn K cd25 "_law_pair" = true)
    (k25 : PySem.W.keepIn K (.ref f25) = true)
    (a26 : PySem.W.nsIn K mainGlobals "_law_arrows" = some (some (.ref f26)))
    (l26 : K.lookup f26 = some ⟨oc26, od26, .func (PySem.W.fnOf "_law_arrows" "_law_arrows" (defArgs sArrows) (defBody sArrows) (defScope sArrows) .none kV26 dc26 pm26 an26 cd26 ct26), sl26⟩)
    (c26 : PySem.W.codeIn K cd26 "_law_arrows" = true)
    (k26 : PySem.W.keepIn K (.ref f26) = true)
    (a27 : PySem.W.nsIn K mainGlobals "_law_made" = some (some (.ref f27)))
    (l27 : K.lookup f27 = some ⟨oc27, od27, .func (PySem.W.fnOf "_law_made" "_law_made" (defArgs sMade) (defBody sMade) (defScope sMade) .none kV27 dc27 pm27 an27 cd27 ct27), sl27⟩)
    (c27 : PySem.W.codeIn K cd27 "_law_made" = true)
    (k27 : PySem.W.keepIn K (.ref f27) = true)
    (a28 : PySem.W.nsIn K mainGlobals "_law_parts" = some (some (.ref f28)))
    (l28 : K.lookup f28 = some ⟨oc28, od28, .func (PySem.W.fnOf "_law_parts" "_law_parts" (defArgs sLParts) (defBody sLParts) (defScope sLParts) .none kV28 dc28 pm28 an28 cd28 ct28), sl28⟩)
    (c28 : PySem.W.codeIn K cd28 "_law_parts" = true)
    (k28 : PySem.W.keepIn K (.ref f28) = true)
    (a29 : PySem.W.nsIn K mainGlobals "_law_one" = some (some (.ref f29)))
    (l29 : K.lookup f29 = some ⟨oc29, od29, .func (PySem.W.fnOf "_law_one" "_law_one" (defArgs sOne) (defBody sOne) (defScope sOne) .none kV29 dc29 pm29 an29 cd29 ct29), sl29⟩)
    (c29 : PySem.W.codeIn K cd29 "_law_one" = true)
    (k29 : PySem.W.keepIn K (.ref f29) = true)
    (a30 : PySem.W.nsIn K mainGlobals "law" = some (some (.ref f30)))
    (l30 : K.lookup f30 = some ⟨oc30, od30, .func (PySem.W.fnOf "law" "law" (defArgs sLaw) (defBody sLaw) (defScope sLaw) .none kV30 dc30 pm30 an30 cd30 ct30), sl30⟩)
    (c30 : PySem.W.codeIn K cd30 "law" = true)
    (k30 : PySem.W.keepIn K (.ref f30) = true)
    (aB : PySem.W.findIn K (.ref CB) "__init__" = some (some (.ref fB)))
    (iB : PySem.W.isFn K (.ref fB) = true)
    (lB : K.lookup fB = some ⟨ocB, odB, .func (PySem.W.fnOf "__init__" "BadWeb.__init__" (defArgs sBad) (defBody sBad) (defScope sBad) .none kVB dcB pmB anB cdB ctB), slB⟩)
    (cB : PySem.W.codeIn K cdB "BadWeb.__init__" = true)
    (kB : PySem.W.keepIn K (.ref fB) = true)
    (aW : PySem.W.findIn K (.ref CW) "__init__" = some (some (.ref fW)))
    (iW : PySem.W.isFn K (.ref fW) = true)
    (lW : K.lookup fW = some ⟨ocW, odW, .func (PySem.W.fnOf "__init__" "Web.__init__" (defArgs sWebI) (defBody sWebI) (defScope sWebI) .none kVW dcW pmW anW cdW ctW), slW⟩)
    (cW : PySem.W.codeIn K cdW "Web.__init__" = true)
    (kW : PySem.W.keepIn K (.ref fW) = true)
    (aE : PySem.W.findIn K (.ref CW) "__eq__" = some (some (.ref fE)))
    (iE : PySem.W.isFn K (.ref fE) = true)
    (lE : K.lookup fE = some ⟨ocE, odE, .func (PySem.W.fnOf "__eq__" "Web.__eq__" (defArgs sWebE) (defBody sWebE) (defScope sWebE) .none kVE dcE pmE anE cdE ctE), slE⟩)
    (cE : PySem.W.codeIn K cdE "Web.__eq__" = true)
    (kE : PySem.W.keepIn K (.ref fE) = true)
    (aT : PySem.W.findIn K (.ref CT) "__init__" = some (some (.ref fT)))
    (iT : PySem.W.isFn K (.ref fT) = true)
    (lT : K.lookup fT = some ⟨ocT, odT, .func (PySem.W.fnOf "__init__" "Table.__init__" (defArgs sTabI) (defBody sTabI) (defScope sTabI) .none kVT dcT pmT anT cdT ctT), slT⟩)
    (cT : PySem.W.codeIn K cdT "Table.__init__" = true)
    (kT : PySem.W.keepIn K (.ref fT) = true)
    (tyB : PySem.W.typeIn K (.ref fB) = some (.type "function"))
    (pgCW : PySem.W.plainGet K CW Str.empty = true)
    (hdCW : PySem.W.hasDictIn K CW = true)
    (poCW : PySem.W.plainOver K CW = true)
    (saCW : PySem.W.findIn K (.ref CW) "__setattr__" = some (some (.builtin "object.__setattr__")))
    (mkCW : PySem.W.makesIn K CW = true)
    (kcCW : PySem.W.keepIn K (.ref CW) = true)
    (haCW : PySem.W.findIn K (.ref CW) "__class__" = some (some (.builtin "object.__class__")))
    (hmCW : PySem.W.mroIn K CW (.type "object") = some true)
    (pgCT : PySem.W.plainGet K CT Str.empty = true)
    (hdCT : PySem.W.hasDictIn K CT = true)
    (poCT : PySem.W.plainOver K CT = true)
    (saCT : PySem.W.findIn K (.ref CT) "__setattr__" = some (some (.builtin "object.__setattr__")))
    (mkCT : PySem.W.makesIn K CT = true)
    (kcCT : PySem.W.keepIn K (.ref CT) = true)
    (haCT : PySem.W.findIn K (.ref CT) "__class__" = some (some (.builtin "object.__class__")))
    (hmCT : PySem.W.mroIn K CT (.type "object") = some true)
    (hn : PySem.W.specialIn K (.builtin "object.__class__") "__get__" = some (some (.builtin "getset_descriptor.__get__")))
    (ht : PySem.W.takesIn K (.builtin "object.__class__") = some true)
    (nmany : PySem.W.findIn K (.ref CW) "many" = some none)
    (narrows : PySem.W.findIn K (.ref CW) "arrows" = some none)
    (nprime : PySem.W.findIn K (.ref CT) "prime" = some none)
    (nwide : PySem.W.findIn K (.ref CT) "wide" = some none)
    (nrows : PySem.W.findIn K (.ref CT) "rows" = some none)
    (nhigh : PySem.W.findIn K (.ref CT) "high" = some none)
    (npart : PySem.W.findIn K (.ref CB) "part" = some none)
    (v8 : PySem.W.nsIn K mainGlobals "MOST_PLACES" = some (some (.int 8 t8)))
    (v12 : PySem.W.nsIn K mainGlobals "MOST_ARROWS" = some (some (.int 12 t12)))
    (vM : PySem.W.nsIn K mainGlobals "MOST" = some (some (.int 12 tM)))
    (vP : PySem.W.nsIn K mainGlobals "PRIMES" = some (some (.ref aP)))
    (lP : K.lookup aP = some ⟨.type "tuple", odP, .seq itsP nP, slP⟩)
    (zP : itsP.size ≤ sizeLine)
    (rP : Vals [.int 2, .int 3, .int 5, .int 7, .int 11, .int 13] itsP.toList)
    (xL : K.lookup CB = some (excClassObj nm q CB N bs bm true sn sub ab col dd m0 m1 m2 m3 m5 "ValueError.__new__"))
    (xb : PySem.HandSPX.refsVE bm = true)
    (saB : PySem.W.findIn K (.ref CB) "__setattr__" = some (some (.builtin "object.__setattr__")))
    (exB : PySem.W.subIn K (.ref CB) (.type "BaseException") = some true)
    (kcB : PySem.W.keepIn K (.ref CB) = true)
    (hdB : PySem.W.hasDictIn K CB = true)
    (gaB : PySem.W.findIn K (.ref CB) "__getattribute__" = some (some (.builtin "BaseException.__getattribute__")))
    (ggB : PySem.W.findIn K (.ref CB) "__getattr__" = some none)
    (haB : PySem.W.findIn K (.ref CB) "__class__" = some (some (.builtin "object.__class__")))
    (hmB : PySem.W.mroIn K CB (.type "object") = some true)
    (icCB : PySem.W.isClsIn K CB = true)
    (tcCB : PySem.W.typeIn K (.ref CB) = some (.type "type"))
    (scCB : PySem.W.subIn K (.ref CB) (.ref CB) = some true)
    (icCE : PySem.W.isClsIn K CE = true)
    (tcCE : PySem.W.typeIn K (.ref CE) = some (.type "type"))
    (scCE : PySem.W.subIn K (.ref CE) (.ref CE) = some true)
    (icCP : PySem.W.isClsIn K CP = true)
    (tcCP : PySem.W.typeIn K (.ref CP) = some (.type "type"))
    (scCP : PySem.W.subIn K (.ref CP) (.ref CP) = some true)
    (icCS : PySem.W.isClsIn K CS = true)
    (tcCS : PySem.W.typeIn K (.ref CS) = some (.type "type"))
    (scCS : PySem.W.subIn K (.ref CS) (.ref CS) = some true)
    (icCW : PySem.W.isClsIn K CW = true)
    (tcCW : PySem.W.typeIn K (.ref CW) = some (.type "type"))
    (scCW : PySem.W.subIn K (.ref CW) (.ref CW) = some true)
    (sBE : PySem.W.subIn K (.ref CB) (.ref CE) = some true)
    (sBV : PySem.W.subIn K (.ref CB) (.type "ValueError") = some true)
    (sBP : PySem.W.subIn K (.ref CB) (.ref CP) = some false)
    (sBS : PySem.W.subIn K (.ref CB) (.ref CS) = some false)
    (sTint : PySem.W.subIn K (.ref CT) (.type "int") = some false)
    (sTbool : PySem.W.subIn K (.ref CT) (.type "bool") = some false)
    (sTtuple : PySem.W.subIn K (.ref CT) (.type "tuple") = some false)
    (sTW : PySem.W.subIn K (.ref CT) (.ref CW) = some false)
    (sVW : PySem.W.subIn K (.type "tuple") (.ref CW) = some false)
    (nfT : PySem.W.notFirst K CW (.ref CT) = true)
    (nfV : PySem.W.notFirst K CW (.type "tuple") = true)
    (nfW : PySem.W.notFirst K CW (.ref CW) = true)
    (zlen : PySem.W.nsIn K mainGlobals "len" = some none)
    (zint : PySem.W.nsIn K mainGlobals "int" = some none)
    (zbool : PySem.W.nsIn K mainGlobals "bool" = some none)
    (zisi : PySem.W.nsIn K mainGlobals "isinstance" = some none)
    (ztup : PySem.W.nsIn K mainGlobals "tuple" = some none)
    (zall : PySem.W.nsIn K mainGlobals "all" = some none)
    (zenum : PySem.W.nsIn K mainGlobals "enumerate" = some none)
    (zlist : PySem.W.nsIn K mainGlobals "list" = some none)
    (zrng : PySem.W.nsIn K mainGlobals "range" = some none)
    (zmin : PySem.W.nsIn K mainGlobals "min" = some none)
    (zmax : PySem.W.nsIn K mainGlobals "max" = some none)
    (zsorted : PySem.W.nsIn K mainGlobals "sorted" = some none)
    (zset : PySem.W.nsIn K mainGlobals "set" = some none)
    (zstr : PySem.W.nsIn K mainGlobals "str" = some none)
    (zabs : PySem.W.nsIn K mainGlobals "abs" = some none)
    (zve : PySem.W.nsIn K mainGlobals "ValueError" = some none) :
    ∃ fd : FuncData, (∀ (s : Shared) (v : Value), BindsTo s fd ⟨[v], []⟩ [("script", v)]) ∧ ∀ base : Heap, K.In base → base.Ns mainGlobals mg → FnOk l.prog w K mg base CX0 8 fa fd ["script"] (spLaw K) := by
  have e := hfa.symm.trans (PySem.W.mg_of X G a30)
  cases e
  have T : Gb mg := ⟨PySem.W.mg_none_of X G zlen, PySem.W.mg_none_of X G zint, PySem.W.mg_none_of X G zbool, PySem.W.mg_none_of X G zisi, PySem.W.mg_none_of X G ztup, PySem.W.mg_none_of X G zall, PySem.W.mg_none_of X G zenum, PySem.W.mg_none_of X G zlist, PySem.W.mg_none_of X G zrng, PySem.W.mg_none_of X G zmin, PySem.W.mg_none_of X G zmax, PySem.W.mg_none_of X G zsorted, PySem.W.mg_none_of X G zset, PySem.W.mg_none_of X G zstr, PySem.W.mg_none_of X G zabs, PySem.W.mg_none_of X G zve⟩
  have clW : Cls K CW := ⟨pgCW, hdCW, poCW, saCW⟩
  have clT : Cls K CT := ⟨pgCT, hdCT, poCT, saCT⟩
  have W : WebC K mg CW := ⟨clW, nmany, narrows, PySem.W.mg_of X G gCW, ⟨t8, PySem.W.mg_of X G v8⟩, ⟨t12, PySem.W.mg_of X G v12⟩⟩
  have D : TabD K mg CT := ⟨clT, nprime, nwide, nrows, nhigh, PySem.W.mg_of X G gCT, ⟨tM, PySem.W.mg_of X G vM⟩, aP, PySem.W.mg_of X G vP, fun H => .inr ⟨_, itsP, nP, lP, rfl, rfl, zP, rP⟩⟩
  have IW : IsC K CW := ⟨clW, haCW, hn, ht, hmCW⟩
  have TC : TabC K CT CW := ⟨⟨clT, haCT, hn, ht, hmCT⟩, kit_tyc (by decide +kernel) sTint, kit_tyc (by decide +kernel) sTbool, kit_tyc (by decide +kernel) sTtuple, kit_ref icCW tcCW scCW sTW, nfT⟩
  have B : BadC K mg CB fB := ⟨⟨⟨nm, q, N, bs, bm, sn, sub, ab, col, dd, m0, m1, m2, m3, m5, xL, xb⟩, saB, exB, tcCB, kcB⟩, aB, tyB, PySem.W.mg_of X G gCB, npart⟩
  have R : Errs K mg CB CE CP CS := ⟨PySem.W.mg_of X G gCE, PySem.W.mg_of X G gCP, PySem.W.mg_of X G gCS, ⟨icCB, gaB, ggB, exB, haB, hn, ht, hmB⟩, ⟨gaB, ggB, exB, hdB⟩, exm_self exB icCB tcCB scCB, kit_ref icCE tcCE scCE sBE, kit_tyc (by decide +kernel) sBV, kitAny_cons (kit_ref icCP tcCP scCP sBP) (fun _ => kitAny_cons (kit_ref icCS tcCS scCS sBS) (fun _ => rfl) fun z => nomatch z) fun z => nomatch z⟩
  have MT : Mk K CT fT := ⟨mkCT, aT, iT, kcCT⟩
  have MW : Mk K CW fW := ⟨mkCW, aW, iW, kcCW⟩
  have F2 := fun_mk (st := sInteger) l2 c2 k2
  have b2 := F2.binds (ps := ["thing"]) fun _ _ _ _ _ _ us hl => match us, hl with | [_], _ => rfl
  have F3 := fun_mk (st := sNumber) l3 c3 k3
  have b3 := F3.binds (ps := ["most", "thing"]) fun _ _ _ _ _ _ us hl => match us, hl with | [_, _], _ => rfl
  have F4 := fun_mk (st := sPrime) l4 c4 k4
  have b4 := F4.binds (ps := ["thing"]) fun _ _ _ _ _ _ us hl => match us, hl with | [_], _ => rfl
  have F15 := fun_mk (st := sArrow) l15 c15 k15
  have b15 := F15.binds (ps := ["many", "thing"]) fun _ _ _ _ _ _ us hl => match us, hl with | [_, _], _ => rfl
  have F16 := fun_mk (st := sParts) l16 c16 k16
  have b16 := F16.binds (ps := ["web"]) fun _ _ _ _ _ _ us hl => match us, hl with | [_], _ => rfl
  have F21 := fun_mk (st := sPot) l21 c21 k21
  have b21 := F21.binds (ps := ["script"]) fun _ _ _ _ _ _ us hl => match us, hl with | [_], _ => rfl
  have F22 := fun_mk (st := sDraw) l22 c22 k22
  have b22 := F22.binds (ps := ["pot", "many"]) fun _ _ _ _ _ _ us hl => match us, hl with | [_, _], _ => rfl
  have F23 := fun_mk (st := sAny) l23 c23 k23
  have b23 := F23.binds (ps := ["pot", "things"]) fun _ _ _ _ _ _ us hl => match us, hl with | [_, _], _ => rfl
  have F24 := fun_mk (st := sOdd) l24 c24 k24
  have b24 := F24.binds (ps := ["pot"]) fun _ _ _ _ _ _ us hl => match us, hl with | [_], _ => rfl
  have F25 := fun_mk (st := sPair) l25 c25 k25
  have b25 := F25.binds (ps := ["pot", "many"]) fun _ _ _ _ _ _ us hl => match us, hl with | [_, _], _ => rfl
  have F26 := fun_mk (st := sArrows) l26 c26 k26
  have b26 := F26.binds (ps := ["pot", "many"]) fun _ _ _ _ _ _ us hl => match us, hl with | [_, _], _ => rfl
  have F27 := fun_mk (st := sMade) l27 c27 k27
  have b27 := F27.binds (ps := ["many", "arrows"]) fun _ _ _ _ _ _ us hl => match us, hl with | [_, _], _ => rfl
  have F28 := fun_mk (st := sLParts) l28 c28 k28
  have b28 := F28.binds (ps := ["many", "arrows"]) fun _ _ _ _ _ _ us hl => match us, hl with | [_, _], _ => rfl
  have F29 := fun_mk (st := sOne) l29 c29 k29
  have b29 := F29.binds (ps := ["pot"]) fun _ _ _ _ _ _ us hl => match us, hl with | [_], _ => rfl
  have F30 := fun_mk (st := sLaw) l30 c30 k30
  have b30 := F30.binds (ps := ["script"]) fun _ _ _ _ _ _ us hl => match us, hl with | [_], _ => rfl
  have FB := fun_mk (st := sBad) lB cB kB
  have bB := FB.binds (ps := ["self", "part"]) fun _ _ _ _ _ _ us hl => match us, hl with | [_, _], _ => rfl
  have FW := fun_mk (st := sWebI) lW cW kW
  have bW := FW.binds (ps := ["self", "many", "arrows"]) fun _ _ _ _ _ _ us hl => match us, hl with | [_, _, _], _ => rfl
  have FE := fun_mk (st := sWebE) lE cE kE
  have bE := FE.binds (ps := ["self", "other"]) fun _ _ _ _ _ _ us hl => match us, hl with | [_, _], _ => rfl
  have FT := fun_mk (st := sTabI) lT cT kT
  have bT := FT.binds (ps := ["self", "prime", "wide", "rows"]) fun _ _ _ _ _ _ us hl => match us, hl with | [_, _, _, _], _ => rfl
  refine ⟨PySem.W.fnOf "law" "law" (defArgs sLaw) (defBody sLaw) (defScope sLaw) .none kV30 dc30 pm30 an30 cd30 ct30, fun s v => .of_eq rfl, fun base _ _ => ?_⟩
  have cInt : Cal l.prog w K mg base 1 "is_integer" (spInteger K) [] := ⟨⟨f2, _, _, [], ok_integer F2 T, PySem.W.mg_of X G a2, k2, b2, .nil⟩⟩
  have cNum : Cal l.prog w K mg base 2 "is_number" (spNumber K) [] := ⟨⟨f3, _, _, [], ok_number F3 cInt, PySem.W.mg_of X G a3, k3, b3, .nil⟩⟩
  have cPri : Cal l.prog w K mg base 2 "is_prime" spPrime2 [] := ⟨⟨f4, _, _, [], ok_prime F4 D cInt, PySem.W.mg_of X G a4, k4, b4, .nil⟩⟩
  have cArr : Cal l.prog w K mg base 3 "is_arrow" (spArrow K) [] := ⟨⟨f15, _, _, [], ok_arrow F15 T cNum, PySem.W.mg_of X G a15, k15, b15, .nil⟩⟩
  have cPs : Cal l.prog w K mg base 1 "parts" (spParts CW) [] := ⟨⟨f16, _, _, [], ok_parts F16 T W, PySem.W.mg_of X G a16, k16, b16, .nil⟩⟩
  have cPot : Cal l.prog w K mg base 1 "_law_pot" (spPot K) [] := ⟨⟨f21, _, _, [], ok_pot F21 T, PySem.W.mg_of X G a21, k21, b21, .nil⟩⟩
  have cD : Cal l.prog w K mg base 1 "_law_draw" spDraw [] := ⟨⟨f22, _, _, [], ok_draw F22 ⟨T.len, T.int⟩, PySem.W.mg_of X G a22, k22, b22, .nil⟩⟩
  have cA : Cal l.prog w K mg base 2 "_law_any" spAny [] := ⟨⟨f23, _, _, [], ok_any F23 T cD, PySem.W.mg_of X G a23, k23, b23, .nil⟩⟩
  have GT : FnOk l.prog w K mg base CX0 3 fT _ ["self", "prime", "wide", "rows"] (spTab CT) := ok_tab FT T D cPri cNum
  have cO : Cal l.prog w K mg base 5 "_law_odd" (spOdd K) [] := ⟨⟨f24, _, _, [], ok_odd F24 T D TC cD cA MT GT bT, PySem.W.mg_of X G a24, k24, b24, .nil⟩⟩
  have cPr : Cal l.prog w K mg base 3 "_law_pair" spPair [] := ⟨⟨f25, _, _, [], ok_pair F25 cD cA, PySem.W.mg_of X G a25, k25, b25, .nil⟩⟩
  have cR : Cal l.prog w K mg base 6 "_law_arrows" (spArrows K) [] := ⟨⟨f26, _, _, [], ok_arrows F26 T D TC cD cA cO cPr MT GT bT, PySem.W.mg_of X G a26, k26, b26, .nil⟩⟩
  have GB : FnOk l.prog w K mg base CX0 1 fB _ ["self", "part"] (spBad CB) := ok_bad FB B
  have GW : FnOk l.prog w K mg base (L2.CX l.prog w) 4 fW _ ["self", "many", "arrows"] (spWebI K CW CB) := ok_webI FW T W B GB bB cNum cArr
  have cM : Cal l.prog w K mg base 6 "_law_made" (spMade K CW) [] := ⟨⟨f27, _, _, [], ok_made F27 T W B R MW GW bW, PySem.W.mg_of X G a27, k27, b27, .nil⟩⟩
  have cL : Cal l.prog w K mg base 1 "_law_parts" spLParts [] := ⟨⟨f28, _, _, [], ok_lparts F28 T, PySem.W.mg_of X G a28, k28, b28, .nil⟩⟩
  have GE : FnOk l.prog w K mg base CX0 1 fE _ ["self", "other"] (spEqW K CW) := ok_webE FE T W IW
  have cOne : Cal l.prog w K mg base 7 "_law_one" spOne [] := ⟨⟨f29, _, _, [], ok_one F29 T D TC W IW cD cA cO cR cM cPs cL MT GT bT MW GW bW GE bE aE iE (kit_ref icCW tcCW scCW sVW) nfV nfW, PySem.W.mg_of X G a29, k29, b29, .nil⟩⟩
  exact ok_law F30 T cPot cOne
theorem walk {l : PySem.W.OpenLaw} {q : Program} {loose : List Str} {XP : (Str → Option Value) → Heap → Prop} {YP : World → Heap → Prop} {d : DefRec} {K : Params → PySem.W.Frag} (hn : l.most = some 63) (hdf : d.params.defaults = [])
    (hY : ∀ (w : World) (h : Heap), YP w h → (K w.params).In h)
    (F : ∀ (w : World) (mg : Str → Option Value) (fa : Addr) (h : Heap), (K w.params).In h → h.Ns mainGlobals mg → mg d.name = some (.ref fa) →
      ∃ fd : FuncData, (∀ (s : Shared) (u : Value), BindsTo s fd ⟨[u], []⟩ [("script", u)]) ∧ ∀ base : Heap, (K w.params).In base → base.Ns mainGlobals mg → FnOk l.prog w (K w.params) mg base CX0 8 fa fd ["script"] (spLaw (K w.params))) :
    PySem.W.WalkO q loose XP YP l.row.toRowW d [] (fun f vs => PySem.call f vs) :=
  L2.walk_of (n := 63) (k := 8) (x := "script") (CX := fun _ => CX0) (sp := fun w => spLaw (K w.params)) hn (by decide) hdf ⟨rfl, by decide, by decide⟩ hY F (fun _ _ a ns hl _ hS => ⟨a, ns, rfl, hS, hl, fun _ => rfl⟩) fun _ _ _ _ _ z => z
end K9
set_option Elab.async false
set_option linter.all false
open PySem PySem.W PyProof.Rows
set_option maxRecDepth 100000 in
set_option maxHeartbeats 0 in
theorem PySem.Challenge.cw_mapwebs_k09_webs_and_their_parts_holds : PySem.Challenge.rw_mapwebs_k09_webs_and_their_parts.Holds := by
  w_on; o_law; k_head; (case hw => w_witness2)
  k_fill
  refine K9.walk (l := PySem.Challenge.rw_mapwebs_k09_webs_and_their_parts) rfl rfl (fun w h Y => PySem.W.kIn_of Y) ?F
  case F =>
    intro w mg fa h KX G hmg
    refine' K9.all_mk KX G hmg ?gCB ?gCW ?gCT ?gCE ?gCP ?gCS ?a2 ?l2 ?c2 ?k2 ?a3 ?l3 ?c3 ?k3 ?a4 ?l4 ?c4 ?k4 ?a15 ?l15 ?c15 ?k15 ?a16 ?l16 ?c16 ?k16 ?a21 ?l21 ?c21 ?k21 ?a22 ?l22 ?c22 ?k22 ?a23 ?l23 ?c23 ?k23 ?a24 ?l24 ?c24 ?k24 ?a25 ?l25 ?c25 ?k25 ?a26 ?l26 ?c26 ?k26 ?a27 ?l27 ?c27 ?k27 ?a28 ?l28 ?c28 ?k28 ?a29 ?l29 ?c29 ?k29 ?a30 ?l30 ?c30 ?k30 ?aB ?iB ?lB ?cB ?kB ?aW ?iW ?lW ?cW ?kW ?aE ?iE ?lE ?cE ?kE ?aT ?iT ?lT ?cT ?kT ?tyB ?pgCW ?hdCW ?poCW ?saCW ?mkCW ?kcCW ?haCW ?hmCW ?pgCT ?hdCT ?poCT ?saCT ?mkCT ?kcCT ?haCT ?hmCT ?hn ?ht ?nmany ?narrows ?nprime ?nwide ?nrows ?nhigh ?npart ?v8 ?v12 ?vM ?vP ?lP ?zP ?rP ?xL ?xb ?saB ?exB ?kcB ?hdB ?gaB ?ggB ?haB ?hmB ?icCB ?tcCB ?scCB ?icCE ?tcCE ?scCE ?icCP ?tcCP ?scCP ?icCS ?tcCS ?scCS ?icCW ?tcCW ?scCW ?sBE ?sBV ?sBP ?sBS ?sTint ?sTbool ?sTtuple ?sTW ?sVW ?nfT ?nfV ?nfW ?zlen ?zint ?zbool ?zisi ?ztup ?zall ?zenum ?zlist ?zrng ?zmin ?zmax ?zsorted ?zset ?zstr ?zabs ?zve
    (case gCB => k_is)
    (case gCW => k_is)
    (case gCT => k_is)
    (case gCE => k_is)
    (case gCP => k_is)
    (case gCS => k_is)
    (case a2 => k_is)
    (case l2 => k_is)
    (case c2 => k_is)
    (case k2 => k_is)
    (case a3 => k_is)
    (case l3 => k_is)
    (case c3 => k_is)
    (case k3 => k_is)
    (case a4 => k_is)
    (case l4 => k_is)
    (case c4 => k_is)
    (case k4 => k_is)
    (case a15 => k_is)
    (case l15 => k_is)
    (case c15 => k_is)
    (case k15 => k_is)
    (case a16 => k_is)
    (case l16 => k_is)
    (case c16 => k_is)
    (case k16 => k_is)
    (case a21 => k_is)
    (case l21 => k_is)
    (case c21 => k_is)
    (case k21 => k_is)
    (case a22 => k_is)
    (case l22 => k_is)
    (case c22 => k_is)
    (case k22 => k_is)
    (case a23 => k_is)
    (case l23 => k_is)
    (case c23 => k_is)
    (case k23 => k_is)
    (case a24 => k_is)
    (case l24 => k_is)
    (case c24 => k_is)
    (case k24 => k_is)
    (case a25 => k_is)
    (case l25 => k_is)
    (case c25 => k_is)
    (case k25 => k_is)
    (case a26 => k_is)
    (case l26 => k_is)
    (case c26 => k_is)
    (case k26 => k_is)
    (case a27 => k_is)
    (case l27 => k_is)
    (case c27 => k_is)
    (case k27 => k_is)
    (case a28 => k_is)
    (case l28 => k_is)
    (case c28 => k_is)
    (case k28 => k_is)
    (case a29 => k_is)
    (case l29 => k_is)
    (case c29 => k_is)
    (case k29 => k_is)
    (case a30 => k_is)
    (case l30 => k_is)
    (case c30 => k_is)
    (case k30 => k_is)
    (case aB => k_is)
    (case iB => k_is)
    (case lB => k_is)
    (case cB => k_is)
    (case kB => k_is)
    (case aW => k_is)
    (case iW => k_is)
    (case lW => k_is)
    (case cW => k_is)
    (case kW => k_is)
    (case aE => k_is)
    (case iE => k_is)
    (case lE => k_is)
    (case cE => k_is)
    (case kE => k_is)
    (case aT => k_is)
    (case iT => k_is)
    (case lT => k_is)
    (case cT => k_is)
    (case kT => k_is)
    (case tyB => k_is)
    (case pgCW => k_is)
    (case hdCW => k_is)
    (case poCW => k_is)
    (case saCW => k_is)
    (case mkCW => k_is)
    (case kcCW => k_is)
    (case haCW => k_is)
    (case hmCW => k_is)
    (case pgCT => k_is)
    (case hdCT => k_is)
    (case poCT => k_is)
    (case saCT => k_is)
    (case mkCT => k_is)
    (case kcCT => k_is)
    (case haCT => k_is)
    (case hmCT => k_is)
    (case hn => k_is)
    (case ht => k_is)
    (case nmany => k_is)
    (case narrows => k_is)
    (case nprime => k_is)
    (case nwide => k_is)
    (case nrows => k_is)
    (case nhigh => k_is)
    (case npart => k_is)
    (case v8 => k_is)
    (case v12 => k_is)
    (case vM => k_is)
    (case vP => k_is)
    (case lP => k_is)
    (case zP => decide +kernel)
    (case rP => exact .cons ⟨_, rfl⟩ (.cons ⟨_, rfl⟩ (.cons ⟨_, rfl⟩ (.cons ⟨_, rfl⟩ (.cons ⟨_, rfl⟩ (.cons ⟨_, rfl⟩ .nil))))))
    (case xL => k_is)
    (case xb => decide +kernel)
    (case saB => k_is)
    (case exB => k_is)
    (case kcB => k_is)
    (case hdB => k_is)
    (case gaB => k_is)
    (case ggB => k_is)
    (case haB => k_is)
    (case hmB => k_is)
    (case icCB => k_is)
    (case tcCB => k_is)
    (case scCB => first | rfl | k_is)
    (case icCE => k_is)
    (case tcCE => k_is)
    (case scCE => first | rfl | k_is)
    (case icCP => k_is)
    (case tcCP => k_is)
    (case scCP => first | rfl | k_is)
    (case icCS => k_is)
    (case tcCS => k_is)
    (case scCS => first | rfl | k_is)
    (case icCW => k_is)
    (case tcCW => k_is)
    (case scCW => first | rfl | k_is)
    (case sBE => k_is)
    (case sBV => k_is)
    (case sBP => k_is)
    (case sBS => k_is)
    (case sTint => k_is)
    (case sTbool => k_is)
    (case sTtuple => k_is)
    (case sTW => k_is)
    (case sVW => k_is)
    (case nfT => k_is)
    (case nfV => k_is)
    (case nfW => k_is)
    (case zlen => k_is)
    (case zint => k_is)
    (case zbool => k_is)
    (case zisi => k_is)
    (case ztup => k_is)
    (case zall => k_is)
    (case zenum => k_is)
    (case zlist => k_is)
    (case zrng => k_is)
    (case zmin => k_is)
    (case zmax => k_is)
    (case zsorted => k_is)
    (case zset => k_is)
    (case zstr => k_is)
    (case zabs => k_is)
    (case zve => k_is)
