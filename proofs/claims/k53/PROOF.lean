import PyProof.Rows.All
import Wide.All
import OpenK.AllK
import Wide.FinOn
import HandS.ForMost
import HandS.Wide
import HandS.Style
import HandS.Walk
import HandS.Zip
import KE.GoesMore
import KE.GoesEnum
import HandS.Conv
import HandS.Comp
import HandS.IsInst
import HandS.TupAny
import PyProof.CallFns
import HandS.Deep
import KE.KRevSl
import HandS.Dict
import PySem.Challenge.RW_cornertold_k53_holed_sheets_of_anything
set_option Elab.async false
set_option linter.all false
set_option maxRecDepth 100000
namespace C2
set_option Elab.async false
set_option linter.all false
set_option maxRecDepth 100000
set_option maxHeartbeats 4000000
open PySem PySem.Spec PyProof.Rows L2
def topS (i : Nat) : Stmt := PySem.Challenge.pw_cornertold_k53_holed_sheets_of_anything.main.body.getD i (.Pass ⟨0, 0, 0, 0⟩)
abbrev sPWhole : Stmt := topS 1
abbrev sBetween : Stmt := topS 2
abbrev sTupOf : Stmt := topS 3
abbrev sHoled : Stmt := topS 5
abbrev sHBlock : Stmt := topS 6
abbrev sHThread : Stmt := topS 7
abbrev sDraws : Stmt := topS 9
abbrev sTake : Stmt := topS 10
abbrev sOf : Stmt := topS 11
abbrev sLetters : Stmt := topS 12
abbrev sLHoled : Stmt := topS 13
abbrev sIsSo : Stmt := topS 14
abbrev sDue : Stmt := topS 15
abbrev sBent : Stmt := topS 16
abbrev sOdd : Stmt := topS 17
abbrev sRight : Stmt := topS 18
abbrev sLaw : Stmt := topS 19
theorem scDraws : FnScope ["_law_script", "_law_k", "_law_cell", "_law_great"] ["_law_script", "_law_k"] (defScope sDraws) := ⟨rfl, rfl, rfl, by decide +kernel, rfl, by decide +kernel, by decide +kernel⟩
theorem scOf : FnScope ["_law_pot_here", "_law_some"] ["_law_pot_here", "_law_some"] (defScope sOf) := ⟨rfl, rfl, rfl, by decide +kernel, rfl, by decide +kernel, by decide +kernel⟩
theorem scTake : FnScope ["_law_pot_here", "_law_many", "_law_digit", "_law_turn", "_law_prime", "_law_drawn"] ["_law_pot_here", "_law_many"] (defScope sTake) := ⟨rfl, rfl, rfl, by decide +kernel, rfl, by decide +kernel, by decide +kernel⟩

/-- all that was tracked, but what stands at p, is as it was -/
def Fr (p : Addr) (H H' : Hp) : Prop := ∀ b o, b ≠ p → H b = some o → H' b = some o
theorem Fr.refl (p : Addr) (H : Hp) : Fr p H H := fun _ _ _ h => h
theorem Fr.trans {p : Addr} {H H1 H2 : Hp} (a : Fr p H H1) (b : Fr p H1 H2) : Fr p H H2 := fun c o n h => b c o n (a c o n h)
theorem Fr.same {p : Addr} {H H1 : Hp} (a : Same H H1) : Fr p H H1 := fun c o _ h => a c o h
theorem Fr.upd {p : Addr} {H : Hp} {o : HO} : Fr p H (upd H p o) := fun c u n h => by rw [upd_ne n]; exact h
theorem Fr.new {p q : Addr} {H : Hp} {o : HO} (h : H q = none) : Fr p H (L2.upd H q o) := fun c u n e => by rw [upd_ne (ne_of_none e h)]; exact e
theorem Fr.free {p : Addr} {H H' : Hp} (e : Fr p H H') {l : Addr} (n : l ≠ p) (h : H' l = none) : H l = none := by
  cases q : H l with
  | none => rfl
  | some o => rw [e l o n q] at h; cases h
theorem same_upd {H : Hp} {p : Addr} {o : HO} (h : H p = none) : Same H (upd H p o) := fun b x e => by
  rw [upd_ne (ne_of_none e h)]
  exact e
def PotAt (H : Hp) (p : Addr) (n : Nat) : Prop := ∃ g c t : Int, H p = some (.lst [.int g, .int c, .int t]) ∧ 0 ≤ t ∧ t ≤ (n : Int)
section
variable {P : Program} {w : World} {K : PySem.W.Frag} {mg : Str → Option Value} {base : Heap}
/-! ### draws -/
def spDraws (K : PySem.W.Frag) : Sp := fun vs H Q _ => ∃ (a : Addr) (ns : List Int) (k : Nat), vs = [.ref a, .int (k : Int)] ∧ SqL K H a (ns.map V.int) ∧ k ≤ 1000 ∧
  ∀ H' p, Same H H' → H p = none → PotAt H' p 0 → Q (.ref p) H'
theorem pow_ok1 : CPow 10 18 := ⟨by decide, by decide, by decide⟩
theorem pow_ok2 : CPow 10 60 := ⟨by decide, by decide, by decide⟩
theorem wide1 : CMulW ((10 : Int) ^ (60 : Int).toNat) ((10 : Int) ^ (60 : Int).toNat) := wide_mul (a := 200) (b := 200) (by decide +kernel) (by decide +kernel) (by decide) (by decide) (by decide)
theorem wide2 : CMulW ((10 : Int) ^ (60 : Int).toNat * (10 : Int) ^ (60 : Int).toNat) ((10 : Int) ^ (60 : Int).toNat) := wide_mul (a := 400) (b := 200) (by decide +kernel) (by decide +kernel) (by decide) (by decide) (by decide)
theorem wide3 : (0 : Int) < (10 : Int) ^ (60 : Int).toNat * (10 : Int) ^ (60 : Int).toNat * (10 : Int) ^ (60 : Int).toNat := by decide +kernel
theorem fin_draws {H : Hp} {Q : VK} {a : Addr} {k : Nat} (q : ∀ (H' : Hp) (p : Addr), Same H H' → H p = none → PotAt H' p 0 → Q (V.ref p) H') (hk : k ≤ 1000) (cell great : Int) :
    tRet (tLst (tCons (tVar 3) (tCons (tOp (rI (fun x j => 0 < j) fun i j => V.int (i % j)) (tOp (rI0 fun i j => V.int (i + j)) (tOp (rI0 fun i j => V.int (i + j))
      (tOp (rI CMul fun i j => V.int (i * j)) (tOp (rI (fun x j => 0 < j) fun i j => V.int (i % j)) (tVar 2) (tC (V.int 2305843009213693951))) (tC (V.int 1000033)))
      (tOp (rI CMul fun i j => V.int (i * j)) (tC (V.int 7919)) (tVar 1))) (tC (V.int 41))) (tC (V.int 2305843009213693921))) (tCons (tC (V.int 0)) tNil))))
      { nx := fun x H' => Q V.non H', rt := Q } [some (V.ref a), some (V.int (k : Int)), some (V.int cell), some (V.int great)] H := by
  refine ⟨.int great, rfl, .int cell, rfl, cell, 2305843009213693951, rfl, rfl, (by show (0 : Int) < 2305843009213693951; decide), _, 1000033, rfl, rfl, .inr ⟨by decide, by decide⟩, .int (k : Int), rfl, 7919, (k : Int), rfl, rfl, .inl ⟨by decide, by decide⟩, _, _, rfl, rfl, _, 41, rfl, rfl, _, _, rfl, rfl, (by show (0 : Int) < 2305843009213693921; decide), by show 3 ≤ sizeLine; decide, fun p np => ?_⟩
  exact q _ p (same_upd np) np ⟨_, _, _, upd_same, Int.le_refl _, Int.le_refl _⟩
theorem ok_draws {f : Addr} {fd : FuncData} {k : Nat} (F : Fun K "_law_pot" "_law_pot" sDraws f fd) (ml : mg "len" = none) (ma : mg "abs" = none) : FnOk P w K mg base CX0 (k + 1) f fd ["_law_script", "_law_k"] (spDraws K) := by
  refine F.ok scDraws (fun vs H Q E h => ?_) (fun cdv A outer s H vs Q E hr h => ?_)
  · obtain ⟨a, ns, k, rfl, _⟩ := h
    rfl
  · obtain ⟨a, ns, k, rfl, hS, hk, q⟩ := h
    refine ⟨_, pss_cons (ps_set (i := 2) scDraws.nd rfl (.inl rfl) (pe_ifExp (pt_cmpR op_lt (pv 1) (pe_callB call_len_seq (by rfl) ml PySem.boot_len (pa_cons (pv 0) pa_nil)) (nomark _))
          (pe_ix ix_list (pv 0) (pv 1) (fun _ _ => rfl)) (pe_op op_add (pe_op op_mul pe_int (pv 1)) pe_int)))
      (pss_cons (ps_set (i := 3) scDraws.nd rfl (.inl rfl) (pe_ifExp (pt_cmpR op_ge (pe_callB call_abs (by rfl) ma (by decide +kernel) (pa_cons (pv 2) pa_nil)) (pe_op op_pow pe_int pe_int) (nomark _))
          (pe_op op_mod (pe_callB call_abs (by rfl) ma (by decide +kernel) (pa_cons (pv 2) pa_nil)) (pe_op op_mulW (pe_op op_mulW (pe_op op_pow pe_int pe_int) (pe_op op_pow pe_int pe_int)) (pe_op op_pow pe_int pe_int))) pe_int))
      (pss_one (ps_ret (pe_lst (pa_cons (pv 3) (pa_cons (pe_op op_mod (pe_op op_add (pe_op op_add (pe_op op_mul (pe_op op_mod (pv 2) pe_int) pe_int) (pe_op op_mul pe_int (pv 1))) pe_int) pe_int) (pa_cons pe_int pa_nil))))))), ?_⟩
    refine ⟨.int (k : Int), rfl, .ref a, rfl, a, _, rfl, .inl hS, _, _, rfl, rfl, _, rfl, ite2 (fun e => ?_) (fun e => ?_)⟩
    · have e1 : k < ns.length := by
        have := of_decide_eq_true e
        rw [List.length_map] at this
        omega
      refine ⟨.ref a, rfl, .int (k : Int), rfl, a, _, _, .int ns[k], rfl, rfl, hS, atI_nat (by rw [List.getElem?_map, List.getElem?_eq_getElem e1]; rfl), ?_⟩
      generalize ns[k] = cell
      refine ⟨.int cell, rfl, cell, rfl, 10, 18, rfl, rfl, pow_ok1, _, _, rfl, rfl, _, rfl, ite2 (fun e => ?_) (fun e => ?_)⟩
      · refine ⟨.int cell, rfl, cell, rfl, 10, 60, rfl, rfl, pow_ok2, 10, 60, rfl, rfl, pow_ok2, _, _, rfl, rfl, wide1, 10, 60, rfl, rfl, pow_ok2, _, _, rfl, rfl, wide2, _, _, rfl, rfl, wide3, ?_⟩
        exact fin_draws q hk _ _
      · exact fin_draws q hk _ _
    · refine ⟨.int (k : Int), rfl, 5, (k : Int), rfl, rfl, .inl ⟨by decide, by decide⟩, _, 3, rfl, rfl, ?_⟩
      refine ⟨_, rfl, _, rfl, 10, 18, rfl, rfl, pow_ok1, _, _, rfl, rfl, _, rfl, ite2 (fun e => ?_) (fun e => ?_)⟩
      · refine ⟨_, rfl, _, rfl, 10, 60, rfl, rfl, pow_ok2, 10, 60, rfl, rfl, pow_ok2, _, _, rfl, rfl, wide1, 10, 60, rfl, rfl, pow_ok2, _, _, rfl, rfl, wide2, _, _, rfl, rfl, wide3, ?_⟩
        exact fin_draws q hk _ _
      · exact fin_draws q hk _ _
end
end C2

namespace C2
set_option Elab.async false
set_option linter.all false
set_option maxRecDepth 100000
set_option maxHeartbeats 4000000
open PySem PySem.Spec PyProof.Rows L2
section
variable {P : Program} {w : World} {K : PySem.W.Frag} {mg : Str → Option Value} {base : Heap}
def primes : List V := [.int 2147483647, .int 2147483629, .int 2147483587, .int 2147483579, .int 2147483563, .int 2147483549, .int 2147483543]
theorem primes_at {r : Int} (h0 : 0 ≤ r) (h1 : r < 7) : ∃ v : Int, atI primes r = some (.int v) ∧ 0 < v ∧ v < 2147483648 := by
  have : r = 0 ∨ r = 1 ∨ r = 2 ∨ r = 3 ∨ r = 4 ∨ r = 5 ∨ r = 6 := by omega
  rcases this with rfl | rfl | rfl | rfl | rfl | rfl | rfl <;> exact ⟨_, rfl, by decide, by decide⟩
def spTake : Sp := fun vs H Q _ => ∃ (p : Addr) (m : Int) (n : Nat), vs = [.ref p, .int m] ∧ PotAt H p n ∧ n < 1000000 ∧ 0 < m ∧ m < 1073741824 ∧
  ∀ (d : Int) H', Fr p H H' → PotAt H' p (n + 1) → 0 ≤ d → d < m → Q (.int d) H'
theorem ok_take {f : Addr} {fd : FuncData} {k : Nat} (F : Fun K "_law_take" "_law_take" sTake f fd) : FnOk P w K mg base CX0 (k + 1) f fd ["_law_pot_here", "_law_many"] spTake := by
  refine F.ok scTake (fun vs H Q E h => ?_) (fun cdv A outer s H vs Q E hr h => ?_)
  · obtain ⟨a, ns, k, rfl, _⟩ := h
    rfl
  · obtain ⟨p, m, n, rfl, ⟨g, c, t, hp, ht0, ht1⟩, hn, hm0, hm1, q⟩ := h
    refine ⟨_, pss_cons (ps_if (pt_cmpR op_gt (pe_ix ix_list (pv 0) pe_int (fun _ _ => rfl)) pe_int (nomark _))
        (pss_cons (ps_set (i := 2) scTake.nd rfl (.inl rfl) (pe_op op_mod (pe_ix ix_list (pv 0) pe_int (fun _ _ => rfl)) (pv 1)))
          (pss_cons (ps_asg (pe_op op_fdiv (pe_ix ix_list (pv 0) pe_int (fun _ _ => rfl)) (pv 1)) (pg_sub (pv 0) pe_int set_list)) (pss_one (ps_ret (pv 2))))) pss_nil)
      (pss_cons (ps_set (i := 3) scTake.nd rfl (.inl rfl) (pe_op op_add (pe_ix ix_list (pv 0) pe_int (fun _ _ => rfl)) pe_int))
      (pss_cons (ps_asg (pv 3) (pg_sub (pv 0) pe_int set_list))
      (pss_cons (ps_set (i := 4) scTake.nd rfl (.inl rfl) (pe_ix ix_list (pe_lst (pa_cons pe_int (pa_cons pe_int (pa_cons pe_int (pa_cons pe_int (pa_cons pe_int (pa_cons pe_int (pa_cons pe_int pa_nil))))))))
          (pe_op op_mod (pv 3) pe_int) (fun _ _ => rfl)))
      (pss_cons (ps_set (i := 5) scTake.nd rfl (.inl rfl) (pe_op op_add (pe_op op_mod (pe_op op_mod (pe_op op_add (pe_ix ix_list (pv 0) pe_int (fun _ _ => rfl))
          (pe_op op_mul (pe_op op_mul pe_int (pv 3)) (pv 3))) (pe_op op_mul (pv 4) (pv 4))) (pv 4)) pe_int))
      (pss_one (ps_ret (pe_op op_mod (pe_op op_fdiv (pe_op op_mod (pe_op op_mul (pv 5) (pe_op op_add (pe_op op_mod (pv 5) pe_int) (pv 3))) (pv 4)) pe_int) (pv 1)))))))), ?_⟩
    have L0 : SqL K H p [.int g, .int c, .int t] := .inl (.inl hp)
    refine ⟨.ref p, rfl, p, _, 0, .int g, rfl, rfl, L0, rfl, _, _, rfl, rfl, _, rfl, ite2 (fun e => ?_) (fun e => ?_)⟩
    · refine ⟨.ref p, rfl, p, _, 0, .int g, rfl, rfl, L0, rfl, .int m, rfl, _, _, rfl, rfl, hm0, ?_⟩
      refine ⟨.ref p, rfl, p, _, 0, .int g, rfl, rfl, L0, rfl, .int m, rfl, _, _, rfl, rfl, ⟨hm0, hm1⟩, ?_⟩
      refine ⟨.ref p, rfl, p, _, 0, 0, rfl, rfl, hp, rfl, ?_⟩
      refine ⟨_, rfl, q _ _ Fr.upd ⟨_, _, _, upd_same, ht0, by omega⟩ (Int.emod_nonneg _ (by omega)) (Int.emod_lt_of_pos _ hm0)⟩
    · refine ⟨.ref p, rfl, p, _, 2, .int t, rfl, rfl, L0, rfl, _, 1, rfl, rfl, ?_⟩
      refine ⟨.int (t + 1), rfl, .ref p, rfl, p, _, 2, 2, rfl, rfl, hp, rfl, ?_⟩
      have hp2 : (upd H p (.lst (List.set [.int g, .int c, .int t] 2 (.int (t + 1))))) p = some (.lst [.int g, .int c, .int (t + 1)]) := upd_same
      refine ⟨by show 7 ≤ sizeLine; decide, fun o no => ?_⟩
      have npo : p ≠ o := ne_of_none hp2 no
      have hp3 : (upd (upd H p (.lst (List.set [.int g, .int c, .int t] 2 (.int (t + 1))))) o (.lst primes)) p = some (.lst [.int g, .int c, .int (t + 1)]) := by
        rw [upd_ne npo]
        exact hp2
      have fr3 : Fr p H (upd (upd H p (.lst (List.set [.int g, .int c, .int t] 2 (.int (t + 1))))) o (.lst primes)) := Fr.trans Fr.upd (Fr.new no)
      have L3 : SqL K (upd (upd H p (.lst (List.set [.int g, .int c, .int t] 2 (.int (t + 1))))) o (.lst primes)) p [.int g, .int c, .int (t + 1)] := .inl (.inl hp3)
      have LO : SqL K (upd (upd H p (.lst (List.set [.int g, .int c, .int t] 2 (.int (t + 1))))) o (.lst primes)) o primes := .inl (.inl upd_same)
      obtain ⟨v, hv, v0, v1⟩ := primes_at (r := (t + 1) % 7) (Int.emod_nonneg _ (by decide)) (Int.emod_lt_of_pos _ (by decide))
      have b20 : (-(2 ^ 64) : Int) < t + 1 ∧ t + 1 < 2 ^ 64 := ⟨by omega, by omega⟩
      have bv : (-(2 ^ 64) : Int) < v ∧ v < 2 ^ 64 := ⟨by omega, by omega⟩
      refine ⟨.int (t + 1), rfl, _, 7, rfl, rfl, (by show (0 : Int) < 7; decide), o, _, _, _, rfl, rfl, LO, hv, ?_⟩
      refine ⟨.ref p, rfl, p, _, 1, .int c, rfl, rfl, L3, rfl, .int (t + 1), rfl, 69621, _, rfl, rfl, .inr b20, .int (t + 1), rfl, _, _, rfl, rfl, .inr b20, _, _, rfl, rfl,
        .int v, rfl, .int v, rfl, v, v, rfl, rfl, .inl bv, _, _, rfl, rfl, (Int.mul_pos v0 v0), .int v, rfl, _, _, rfl, rfl, v0, _, 1, rfl, rfl, ?_⟩
      have z0 := Int.emod_nonneg ((c + 69621 * (t + 1) * (t + 1)) % (v * v)) (show v ≠ 0 by omega)
      have z1 := Int.emod_lt_of_pos ((c + 69621 * (t + 1) * (t + 1)) % (v * v)) v0
      generalize (c + 69621 * (t + 1) * (t + 1)) % (v * v) % v = z at z0 z1
      have bz : (-(2 ^ 64) : Int) < z + 1 ∧ z + 1 < 2 ^ 64 := ⟨by omega, by omega⟩
      refine ⟨.int (z + 1), rfl, .int (z + 1), rfl, z + 1, 1009, rfl, rfl, (by show (0 : Int) < 1009; decide), .int (t + 1), rfl, _, _, rfl, rfl, _, _, rfl, rfl, .inl bz, .int v, rfl, _, _, rfl, rfl, v0, _, 7, rfl, rfl, ⟨by decide, by decide⟩,
        .int m, rfl, _, _, rfl, rfl, hm0, ?_⟩
      exact q _ _ fr3 ⟨_, _, _, hp3, by omega, by omega⟩ (Int.emod_nonneg _ (by omega)) (Int.emod_lt_of_pos _ hm0)
end
end C2

namespace C2
set_option Elab.async false
set_option linter.all false
set_option maxRecDepth 100000
set_option maxHeartbeats 4000000
open PySem PySem.Spec PyProof.Rows L2
theorem seqAsg {ta : TE} {i : Nat} {t : TS} {D : _} {σ : L2.St} {H : Hp} (h : ta σ H fun x H1 => t D (σ.set i (some x)) H1) : tSeq (tAsg ta (gName i)) t D σ H := h
theorem tcb_run {r : List V → Hp → VK → Prop} {te : TE} {σ : L2.St} {H : Hp} {Q : VK} (h : te σ H fun x H1 => r [x] H1 Q) : tCB r (tCons te tNil) σ H Q := h
theorem gName_run {i : Nat} {v : V} {σ : L2.St} {H : Hp} {Q : L2.St → Hp → Prop} (h : Q (σ.set i (some v)) H) : gName i v σ H Q := h
theorem PotAt.mono {H : Hp} {p : Addr} {n m : Nat} (h : PotAt H p n) (l : n ≤ m) : PotAt H p m := by
  obtain ⟨g, c, t, a, b, d⟩ := h
  exact ⟨g, c, t, a, b, by omega⟩
theorem PotAt.new {H : Hp} {p t : Addr} {n : Nat} {o : HO} (h : PotAt H p n) (nt : H t = none) : PotAt (upd H t o) p n := by
  obtain ⟨g, c, u, hp, r⟩ := h
  exact ⟨g, c, u, by rw [upd_ne (ne_of_none hp nt)]; exact hp, r⟩
theorem PotAt.ne {H : Hp} {p t : Addr} {n : Nat} (h : PotAt H p n) (nt : H t = none) : t ≠ p := by
  obtain ⟨g, c, u, hp, r⟩ := h
  exact fun e => by rw [e, hp] at nt; cases nt
theorem PotAt.same {H H' : Hp} {p : Addr} {n : Nat} (h : PotAt H p n) (s : Same H H') : PotAt H' p n := by
  obtain ⟨g, c, u, hp, r⟩ := h
  exact ⟨g, c, u, s _ _ hp, r⟩
theorem PotAt.at {H : Hp} {p D : Addr} {o : HO} {n : Nat} (h : PotAt H p n) (ne : D ≠ p) : PotAt (upd H D o) p n := by
  obtain ⟨g, c, u, hp, r⟩ := h
  exact ⟨g, c, u, by rw [upd_ne ne.symm]; exact hp, r⟩
end C2

namespace C2
set_option Elab.async false
set_option linter.all false
set_option maxRecDepth 100000
set_option maxHeartbeats 4000000
open PySem PySem.Spec PyProof.Rows L2
/-! ### zip of a list and a tuple -/
def ItLT (K : PySem.W.Frag) (a b : Addr) : It :=
  ⟨fun j G => ∃ (us vs : List V) (u v : V), SqL K G a us ∧ SqT K G b vs ∧ us[j]? = some u ∧ vs[j]? = some v,
    fun j G r G' => ∃ T u v, r = .ref T ∧ G T = none ∧ G' = upd G T (.tup [u, v]) ∧ (∀ us, SqL K G a us → us[j]? = some u) ∧ ∀ vs, SqT K G b vs → vs[j]? = some v,
    fun j G => ∃ us vs : List V, SqL K G a us ∧ SqT K G b vs ∧ j ≤ us.length ∧ j ≤ vs.length ∧ (j = us.length ∨ j = vs.length)⟩
def tnLT (a b z TI TO i1 i2 : Addr) (j : Nat) (h : Heap) : Prop :=
  IsZip h z TI TO .none ∧ IsTupOf2 h TI (.ref i1) (.ref i2) ∧ (∃ u v, IsTupOf2 h TO u v) ∧ h.IsListIter i1 a j ∧ h.IsTupleIter i2 b j
theorem in5 {c z TI TO i1 i2 : Addr} (h : c ∈ [z, TI, TO, i1, i2]) : c = z ∨ c = TI ∨ c = TO ∨ c = i1 ∨ c = i2 := by simpa using h
theorem turnLT {P : Program} {w : World} {K : PySem.W.Frag} {elts : List Expr} {kk : Nat} {tpos : Pos} {a b z TI TO i1 i2 : Addr} (S : ZipSep2 z TI TO i1 i2 [i1, a] [i2, b]) :
    Turn P w K (.Tuple elts kk tpos) (ItLT K a b) [z, TI, TO, i1, i2] z (tnLT a b z TI TO i1 i2) where
  mem := by simp
  obj := by
    rintro j h ⟨q1, q2, ⟨u, v, q3⟩, ⟨o4, q4, _, d4⟩, ⟨o5, q5, _, d5⟩⟩ c hc
    rcases in5 hc with rfl | rfl | rfl | rfl | rfl
    · exact ⟨_, q1, fun _ e => nomatch e⟩
    · exact ⟨_, q2, fun _ e => nomatch e⟩
    · exact ⟨_, q3, fun _ e => nomatch e⟩
    · exact ⟨o4, q4, fun _ e => by rw [d4] at e; cases e⟩
    · exact ⟨o5, q5, fun _ e => by rw [d5] at e; cases e⟩
  keep := by
    rintro j h h' ⟨q1, q2, ⟨u, v, q3⟩, q4, q5⟩ kp
    exact ⟨kp z (by simp) _ q1, kp TI (by simp) _ q2, ⟨u, v, kp TO (by simp) _ q3⟩, q4.at fun o e => kp i1 (by simp) o e, q5.at fun o e => kp i2 (by simp) o e⟩
  item := by
    intro X hP hw hK hc j pins s σ G E I hf st hg
    subst hP hw hK
    obtain ⟨q1, q2, ⟨u0, v0, q3⟩, q4, q5⟩ := st
    obtain ⟨us, vs, u, v, su, sv, gu, gv⟩ := hg
    obtain ⟨uits, ru, pu, _⟩ := I.list su
    obtain ⟨vits, rv, pv, _⟩ := I.tuple sv
    obtain ⟨uu, huu, ruu⟩ := ru.get gu
    obtain ⟨vv, hvv, rvv⟩ := rv.get gv
    have hd : X.A.handled = none := I.ok.hd hc
    have hzl : z < s.heap.objs.size := Heap.lt_size q1
    have ne1 : a ≠ i1 := fun e => by
      obtain ⟨o4, e4, c4, _⟩ := q4
      obtain ⟨o, oe, oc, _⟩ := pu.isList
      rw [e, e4] at oe
      cases oe
      rw [c4] at oc
      exact absurd oc (by decide)
    have ne2 : b ≠ i2 := fun e => by
      obtain ⟨o4, e4, c4, _⟩ := q5
      obtain ⟨o, oe, oc, _⟩ := pv
      rw [e, e4] at oe
      cases oe
      rw [c4] at oc
      exact absurd oc (by decide)
    have D1 := Draws.list (prog := X.prog) (w := X.w) (A := X.A.in1) hd i1 a ne1 uits.toArray
    have D2 := Draws.tuple (prog := X.prog) (w := X.w) (A := X.A.in1) hd i2 b ne2 vits.toArray
    have l1 : j < uits.toArray.size := by
      have := (List.getElem?_eq_some_iff.mp huu).1
      simpa using this
    have l2 : j < vits.toArray.size := by
      have := (List.getElem?_eq_some_iff.mp hvv).1
      simpa using this
    refine wpAny_pyNext_zipD2_item S D1 D2 q1 q2 q3 ⟨q4, pu.isList⟩ ⟨q5, pv⟩ l1 l2 fun x1 x2 h' tk e1 e2 n1 n3 n4 n5 nT nsz nk => ?_
    have ex1 : x1 = uu := Option.some.inj (e1.symm.trans (by simpa using huu))
    have ex2 : x2 = vv := Option.some.inj (e2.symm.trans (by simpa using hvv))
    subst ex1 ex2
    refine ⟨_, rfl, wpAny_letOwnedTupleGo_zip (s := { s with heap := h', toks := tk }) n1 fun h'' m1 sb => ?_⟩
    have mT : h''.get? s.heap.objs.size = some { cls := .type "tuple", data := .seq #[x1, x2] } := (sb.2 _ (Nat.ne_of_gt hzl)).trans nT
    have new : ObjOk X.prog X.w (upd G s.heap.objs.size (.tup [u, v])) h'' s.heap.objs.size (.tup [u, v]) :=
      ⟨by show 2 ≤ sizeLine; decide, [x1, x2], .cons ruu (.cons rvv .nil), ⟨_, mT, rfl, _, rfl⟩⟩
    have I1 : Inv X pins σ (upd G s.heap.objs.size (.tup [u, v])) { s with heap := h'', toks := tk } :=
      I.turnedNew (t' := tk) (ch := [z, TI, TO, i1, i2]) (fun c o hb q => (sb.2 c (fun e => hb (by simp [e]))).trans
        (nk c o (fun e => hb (by simp [e])) (fun e => hb (by simp [e])) (fun e => hb (by simp [e])) (fun e => hb (by simp [e])) q)) hf (Nat.le_refl _) new
    refine ⟨.ref s.heap.objs.size, _, I1, rfl, ⟨_, u, v, rfl, I.hok.fresh (Nat.le_refl _), rfl, fun l hl => ?_, fun l hl => ?_⟩, ⟨m1, ?_, ⟨x1, x2, ?_⟩, ?_, ?_⟩, fun c hcm => ?_⟩
    · rw [I.list_inj hl su]; exact gu
    · rw [I.tuple_inj hl sv]; exact gv
    · exact (sb.2 _ S.TIz).trans (nk _ _ S.TIz S.TITO S.TIi1 S.TIi2 q2)
    · exact (sb.2 _ S.TOz).trans n3
    · exact n4.1.at fun o e => (sb.2 _ S.zi1.symm).trans e
    · exact n5.1.at fun o e => (sb.2 _ S.zi2.symm).trans e
    · have low : c < s.heap.objs.size := by
        rcases in5 hcm with rfl | rfl | rfl | rfl | rfl
        · exact hzl
        · exact Heap.lt_size q2
        · exact Heap.lt_size q3
        · obtain ⟨_, y, _⟩ := q4; exact Heap.lt_size y
        · obtain ⟨_, y, _⟩ := q5; exact Heap.lt_size y
      rw [upd_ne (Nat.ne_of_lt low)]
      exact (hf c hcm).1
  done := by
    intro X hP hw hK hc j pins s σ G E I hf st hg
    subst hP hw hK
    obtain ⟨q1, q2, ⟨u0, v0, q3⟩, q4, q5⟩ := st
    obtain ⟨us, vs, su, sv, b1, b2, b3⟩ := hg
    obtain ⟨uits, ru, pu, _⟩ := I.list su
    obtain ⟨vits, rv, pv, _⟩ := I.tuple sv
    have hd : X.A.handled = none := I.ok.hd hc
    have ne1 : a ≠ i1 := fun e => by
      obtain ⟨o4, e4, c4, _⟩ := q4
      obtain ⟨o, oe, oc, _⟩ := pu.isList
      rw [e, e4] at oe
      cases oe
      rw [c4] at oc
      exact absurd oc (by decide)
    have ne2 : b ≠ i2 := fun e => by
      obtain ⟨o4, e4, c4, _⟩ := q5
      obtain ⟨o, oe, oc, _⟩ := pv
      rw [e, e4] at oe
      cases oe
      rw [c4] at oc
      exact absurd oc (by decide)
    have D1 := Draws.list (prog := X.prog) (w := X.w) (A := X.A.in1) hd i1 a ne1 uits.toArray
    have D2 := Draws.tuple (prog := X.prog) (w := X.w) (A := X.A.in1) hd i2 b ne2 vits.toArray
    have l1 := ru.length
    have l2 := rv.length
    refine wpAny_pyNext_zipD2_end S D1 D2 q1 q2 q3 ⟨q4, pu.isList⟩ ⟨q5, pv⟩ (by simp; omega) (by simp; omega) (by simp; omega) fun h' tk nk => ⟨rfl, ?_⟩
    exact I.turnedL (t' := tk) (ch := [z, TI, TO, i1, i2]) (fun c o hb q =>
      nk c o (fun e => hb (by simp [e])) (fun e => hb (by simp [e])) (fun e => hb (by simp [e])) (fun e => hb (by simp [e])) q) hf
  self := fun A j s Q E st h => wpAny_pyIter_zip st.1 h
def iZipLT (K : PySem.W.Frag) (ta : TA) : TI := fun σ G R => ta σ G fun vs G1 => ∃ a b us ys, vs = [.ref a, .ref b] ∧ SqL K G1 a us ∧ SqT K G1 b ys ∧ R (ItLT K a b) G1
theorem pi_zipLT {X : Cx} {e e2 : Expr} {ta : TA} {p pos tpos : Pos} {elts : List Expr} {kk : Nat} (hg : Gl X "zip") (hm : X.mg "zip" = none) (ha : PA X [e, e2] ta)
    (plainArgs : starEach [e, e2] X.env = (false, eval e X.env) :: starEach [e2] X.env := by rfl)
    (noStar : (backTo pos (starEach [e2] X.env)).any (·.1) = false := by rfl) :
    PI X (.Tuple elts kk tpos) (.Call (.Name "zip" p) [e, e2] [] pos) (iZipLT X.K ta) := by
  refine ⟨fun pins s σ G R I h => Call_ (ld_blt I hg hm PyProof.Rows.boot_zip (PyProof.Rows.callWith_type1 (thn (ha.run pos pins s σ G _ I h) fun us s1 ⟨vs, G1, I1, r1, q1⟩ => ?_) plainArgs noStar))⟩
  obtain ⟨a, b, xs, ys, rfl, sx, sy, q⟩ := q1
  cases r1 with
  | cons r rr => cases rr with
    | cons r' rr =>
      cases rr
      cases r
      cases r'
      obtain ⟨uits, ru, pu, _⟩ := I1.list sx
      obtain ⟨vits, rv, pv, _⟩ := I1.tuple sy
      obtain ⟨oa, ea, _⟩ := id pu.isList
      obtain ⟨ob, eb, _⟩ := id pv
      have S := zip_sep2 (N := s1.heap.objs.size) (fp1 := [a]) (fp2 := [b]) (fun c hc => by rw [List.mem_singleton.mp hc]; exact Heap.lt_size ea) (fun c hc => by rw [List.mem_singleton.mp hc]; exact Heap.lt_size eb)
      refine zip_begins2 (begins_list a uits.toArray) (begins_tuple b vits.toArray) pu.isList pv fun h' g1 g2 g3 g4 g5 gsz gk => wpAny_pyIter_zip g1 ?_
      refine ⟨s1.heap.objs.size + 4, [s1.heap.objs.size + 4, s1.heap.objs.size + 2, s1.heap.objs.size + 3, s1.heap.objs.size, s1.heap.objs.size + 1], _, _, G1, rfl, I1.kept (t' := s1.toks) gk, turnLT S,
        ⟨g1, g2, ⟨_, _, g3⟩, ⟨_, g4, rfl, rfl⟩, ⟨_, g5, rfl, rfl⟩⟩, fun c hc => ?_, q⟩
      have above : s1.heap.objs.size ≤ c := by
        rcases in5 hc with rfl | rfl | rfl | rfl | rfl
        · exact Nat.le_add_right _ _
        · exact Nat.le_add_right _ _
        · exact Nat.le_add_right _ _
        · exact Nat.le_refl _
        · exact Nat.le_add_right _ _
      exact I1.fpOk above (I1.hok.fresh above)
theorem walkLT {K : PySem.W.Frag} {a b : Addr} {xs ys : List V} {n : Nat} (h1 : xs.length = n) (h2 : ys.length = n) : Walk (ItLT K a b) n (fun G => SqL K G a xs ∧ SqT K G b ys) (YPair (fun i => xs[i]?) (fun i => ys[i]?)) := by
  refine ⟨fun i G hi q => ⟨xs, ys, xs[i]'(by omega), ys[i]'(by omega), q.1, q.2, List.getElem?_eq_getElem _, List.getElem?_eq_getElem _⟩, fun G q => ⟨xs, ys, q.1, q.2, by omega, by omega, by omega⟩, fun i G v G' _ q y => ?_⟩
  obtain ⟨T, u, v, e1, e2, e3, e4, e5⟩ := y
  exact ⟨T, u, v, e1, e2, e3, e4 xs q.1, e5 ys q.2⟩
/-! ### repr of data -/
def rReprD (K : PySem.W.Frag) : List V → Hp → VK → Prop := fun xs G Q => ∃ a d, xs = [.ref a] ∧ Dp K G (.ref a) d ∧ d.showable = true ∧ d.hasDict = false ∧ d.depth ≤ 60 ∧ d.shown.length ≤ sizeLine ∧ Q (.str d.shown) G
theorem call_reprD {X : Cx} (hu : X.A.units + 64 < cLine) (hgd : X.A.guards = some []) : CallR X (.builtin "repr") (rReprD X.K) := by
  intro pins s σ G xs us Q I r h
  obtain ⟨a, d, rfl, hd, s1, s2, s3, s4, q⟩ := h
  obtain ⟨given, rfl, rel⟩ := vals1 r
  obtain ⟨as, rd⟩ := Dp.reads I d _ _ hd rel
  cases rel
  refine repr_of_reads' rd s1 (fun e => by rw [s2] at e; cases e) hgd (by omega) (fun _ _ e => e) (fun h' t tk kp => ?_) s4
  exact ⟨.str d.shown, G, I.kept (t' := tk) kp, ⟨_, rfl⟩, q⟩
end C2

namespace C2
set_option Elab.async false
set_option linter.all false
set_option maxRecDepth 100000
set_option maxHeartbeats 4000000
open PySem PySem.Spec PyProof.Rows L2
/-! ### a def's promise where no repr is under way -/
structure FnG (P : Program) (w : World) (K : PySem.W.Frag) (mg : Str → Option Value) (base : Heap) (k : Nat) (f : Addr) (fd : FuncData) (ps : List Str) (sp : Sp) : Prop where
  len : ∀ vs G Q E, sp vs G Q E → vs.length = ps.length
  run : ∀ (A : Around) (outer : List Env) (s : Shared) (G : Hp) (args : Args) (us : List Value) (vs : List V) (Q : VK) (E : XK), A.guards = some [] → Room k A →
    Env0 P w K mg base A outer s G → BindsTo s fd args (ps.zip us) → Vals vs us → sp vs G Q E → codeAny (model P w) A (.call (.ref f) args) (CR CX0 outer P w G s Q E) s
section
variable {P : Program} {w : World} {K : PySem.W.Frag} {mg : Str → Option Value} {base : Heap}
theorem deeper_guards {A : Around} {env : Env} (h : A.guards = some []) : (A.deeper env).guards = some [] := h
theorem okG {x qual : Str} {st : Stmt} {f : Addr} {fd : FuncData} {N ps : List Str} {k : Nat} {sp : Sp} (F : Fun K x qual st f fd) (S : FnScope N ps (defScope st)) (len : ∀ vs G Q E, sp vs G Q E → vs.length = ps.length)
    (body : ∀ (cdv : Value) (A : Around) (outer : List Env) (s : Shared) (G : Hp) (vs : List V) (Q : VK) (E : XK), A.guards = some [] → Room k (A.deeper (envOfC qual (defScope st) s.heap.objs.size f cdv)) → sp vs G Q E →
      ∃ t, PSs (cxOf CX0 P w K mg base N qual (defScope st) f cdv A outer s G E).nox (defBody st) t ∧ t { nx := fun _ G' => Q .non G', rt := Q } (start N vs) G) : FnG P w K mg base (k + 1) f fd ps sp := by
  obtain ⟨v1, v2, v3, v4, v5, v6, cdv, v7, v8, rfl, lk, hcd⟩ := F.ex
  refine ⟨len, fun A outer s G args us vs Q E hgd hr e0 hb r hsp => ?_⟩
  have ln := len vs G Q E hsp
  have inK : K.In s.heap := e0.mod.kin.keeps fun c y e => (e0.bs c y e).left
  have noL : s.heap.NoLimit := e0.mod.nolimit.keeps fun c y e => (e0.bs c y e).left
  refine codeAny_call_function hr.depth (inK _ _ lk) rfl S.co S.gen rfl (PySem.W.codeRec_of inK hcd) (hb _ _ _ _ ?_)
  refine wpAny_newFunctionEnv_cells S.kind (fun y hy => ?_) fun env he s1 x => ?_
  · rcases S.par y.1 (List.of_mem_zip (a := y.1) (b := y.2) hy).1 with q | q
    · exact Or.inl q
    · exact Or.inr ⟨q, PySem.W.cellsFrom_some _ _ _ (Or.inl q)⟩
  · subst he
    refine ⟨noL.keeps x.toInCall.keep, codeAny_func ?_⟩
    obtain ⟨t, ht, hq⟩ := body cdv A outer s G vs Q E hgd (hr.deeper _) hsp
    have J0 := inv_start (CX := CX0) (E := E) S hr.hd e0 ln r x
    refine wpAny_mono (ht.nox.run [] s1 (start N vs) G _ J0 hq) (fun fl s' hs => ?_) fun _ _ hs => hs
    cases fl with
    | ret u =>
      obtain ⟨v, σ', G', J, rv, q⟩ := hs
      exact ⟨v, G', J.os, J.bare, J.base, J.hok, rv, q⟩
    | next =>
      obtain ⟨σ', G', J, q⟩ := hs
      exact ⟨V.non, G', J.os, J.bare, J.base, J.hok, rfl, q⟩
    | brk =>
      obtain ⟨_, _, _, q⟩ := hs
      exact q.elim
    | cont =>
      obtain ⟨_, _, _, q⟩ := hs
      exact q.elim
/-- what the law's own call leaves: True, and what stood before as it was -/
def Leaves (s₁ : Shared) : Except Value Flow → Shared → Prop := fun r s' => r = .ok (.ret (.bool true)) ∧ OldK s₁.heap s'.heap ∧
  s'.os = s₁.os ∧ AllBare s'.gens
/-- the law's own call -/
theorem law_callG {mb : Str → Option Value} {k : Nat} {fa a : Addr} {fd : FuncData} {x : Str} {sp : Sp} {s₁ : Shared} {vs : List Value} {ns : List Int}
    (inK : K.In s₁.heap) (hns : s₁.heap.Ns mainGlobals mg) (hb : s₁.heap.Ns builtinsNs mb) (hbb : ∀ x : Str, x ≠ "__name__" → mb x = bootBuiltins x) (hlim : s₁.heap.NoLimit) (hg : s₁.gens = #[])
    (hr : Room k callerA) (hl : ns.length ≤ sizeLine) (hi : IntsAre vs ns)
    (ha : s₁.heap.get? a = some { cls := .type "list", data := .seq vs.toArray })
    (F : ∀ base : Heap, K.In base → base.Ns mainGlobals mg → FnG P w K mg base k fa fd [x] sp) (hbind : ∀ (s : Shared) (u : Value), BindsTo s fd ⟨[u], []⟩ [(x, u)])
    (hsp : ∀ G : Hp, SqL K G a (ns.map V.int) → sp [.ref a] G (fun v _ => v = .bl true) fun _ _ _ => False) :
    codeAny (model P w) callerA (.call (.ref fa) ⟨[.ref a], []⟩) (Leaves s₁) s₁ := by
  have main : ∀ G : Hp, Only G → SqL K G a (ns.map V.int) → HOk P w G s₁.heap → (∀ b, G b ≠ none → b = a) → (G a ≠ none → K.lookup a = none) →
      codeAny (model P w) callerA (.call (.ref fa) ⟨[.ref a], []⟩) (Leaves s₁) s₁ := by
    intro G only sq hok one off
    have hid : ∀ {b : Addr} {y : Obj}, s₁.heap.get? b = some y → (G b = none) → (hidT s₁.heap G).get? b = some y := fun e n => hidT_get e n
    have dct : ∀ {b : Addr} {y : Obj} {es : Array DictEntry} {ep : Nat}, s₁.heap.get? b = some y → y.data = .dict es ep → G b = none := by
      intro b y es ep e d
      cases q : G b with
      | none => rfl
      | some u =>
        have z : b = a := one b (by rw [q]; exact Option.some_ne_none u)
        rw [z, ha] at e
        cases e
        exact absurd d (by intro c; cases c)
    have nsp : ∀ {b : Addr} {m : Str → Option Value}, s₁.heap.Ns b m → (hidT s₁.heap G).Ns b m := by
      rintro b m ⟨y, es, ep, e, d, r⟩
      exact ⟨y, es, ep, hid e (dct e d), d, r⟩
    have kb : K.In (hidT s₁.heap G) := by
      intro b y e
      refine hid (inK b y e) ?_
      cases q : G b with
      | none => rfl
      | some u =>
        have z : b = a := one b (by rw [q]; exact Option.some_ne_none u)
        rw [z] at q e
        rw [off (by rw [q]; exact Option.some_ne_none u)] at e
        cases e
    have md : Mod K mg (hidT s₁.heap G) := by
      refine ⟨kb, nsp hns, ⟨mb, nsp hb, hbb⟩, ?_⟩
      obtain ⟨mc, y1, y2⟩ := hlim
      exact ⟨mc, nsp y1, y2⟩
    have e0 : Env0 P w K mg (hidT s₁.heap G) callerA [] s₁ G :=
      ⟨rfl, md, fun b y e => of_hidT e, Nat.le_of_eq (hidT_size _ _), trivial, fun b z => absurd (show b ∈ ([] : List Addr) from z) List.not_mem_nil, hok, .of_eq hg⟩
    refine codeAny_mono ((F _ kb (nsp hns)).run callerA [] s₁ G ⟨[.ref a], []⟩ [.ref a] [.ref a] _ _ rfl hr e0 (hbind s₁ (.ref a)) (.cons rfl .nil) (hsp G sq)) fun r s' h => ?_
    cases r with
    | error e => exact False.elim h
    | ok fl => cases fl with
      | next => exact False.elim h
      | brk => exact False.elim h
      | cont => exact False.elim h
      | ret u =>
        obtain ⟨v, G', os, bare, un, hok', r', (q : v = .bl true)⟩ := h
        subst q
        cases (show u = Value.bool true from r')
        refine ⟨rfl, OldK.of_keep fun b y e => ?_, os, bare⟩
        cases q : G b with
        | none => exact un.keep b y e q (fun z => absurd (show b ∈ ([] : List Addr) from z) List.not_mem_nil) List.not_mem_nil
        | some u => rcases only b with z | ⟨ob, xs, z⟩
                    · rw [q] at z; cases z
                    · have f1 := (hok b _ z).1
                      have f2 := (hok' b _ (un.frzs b ob _ z)).1
                      rw [e] at f1
                      cases f1
                      exact f2
  have rv := vals_ints hi
  have ln := hi.length
  cases hk : K.lookup a with
  | some y =>
    have e := inK a y hk
    rw [ha] at e
    cases e
    exact main (fun _ => none) (fun _ => .inl rfl) (.inr ⟨_, vs.toArray, _, hk, rfl, rfl, rfl, by rw [List.size_toArray, ln]; exact hl, by simpa using rv⟩)
      (fun b u z => by cases (show (none : Option HO) = some u from z)) (fun b z => absurd rfl z) fun z => absurd rfl z
  | none =>
    obtain ⟨G, at_a, not_a⟩ : ∃ G : Hp, (∀ b, b = a → G b = some (.frz { cls := .type "list", data := .seq vs.toArray } (.lst (ns.map V.int)))) ∧ ∀ b, b ≠ a → G b = none :=
      ⟨fun b => if b = a then some (HO.frz { cls := .type "list", data := .seq vs.toArray } (.lst (ns.map V.int))) else none, fun b e => if_pos e, fun b e => if_neg e⟩
    refine main G (fun b => ?_) (.inl (.inr ⟨_, at_a a rfl⟩)) (fun b u z => ?_) (fun b z => ?_) fun _ => hk
    · by_cases c : b = a
      · exact .inr ⟨_, _, at_a b c⟩
      · exact .inl (not_a b c)
    · by_cases c : b = a
      · rw [at_a b c] at z
        cases z
        rw [c]
        refine ⟨ha, ?_, vs, _, rv, ha⟩
        rw [List.length_map]
        exact hl
      · rw [not_a b c] at z
        cases z
    · by_cases c : b = a
      · exact c
      · exact absurd (not_a b c) z
end
theorem walkG {l : PySem.W.OpenLaw} {n k : Nat} {q : Program} {loose : List Str} {XP : (Str → Option Value) → Heap → Prop} {YP : World → Heap → Prop} {d : DefRec} {K : Params → PySem.W.Frag} {sp : PySem.W.Frag → Sp} {x : Str}
    (most : l.most = some n) (short : n ≤ sizeLine) (bare : d.params.defaults = []) (room : Room k callerA)
    (stands : ∀ (w : World) (h : Heap), YP w h → (K w.params).In h)
    (promise : ∀ (w : World) (mg : Str → Option Value) (fa : Addr) (h : Heap), (K w.params).In h → h.Ns mainGlobals mg →
      mg d.name = some (.ref fa) →
      ∃ fd : FuncData, (∀ (s : Shared) (u : Value), BindsTo s fd ⟨[u], []⟩ [(x, u)]) ∧ ∀ base : Heap, (K w.params).In base → base.Ns mainGlobals mg → FnG l.prog w (K w.params) mg base k fa fd [x] (sp (K w.params)))
    (hsp : ∀ (K : PySem.W.Frag) (G : Hp) (a : Addr) (ns : List Int), ns.length ≤ n → SqL K G a (ns.map V.int) → sp K [.ref a] G (fun v _ => v = .bl true) fun _ _ _ => False) :
    PySem.W.WalkO q loose XP YP l.row.toRowW d []
      (fun f vs => PySem.call f vs) := by
  refine Att.attach_call most bare fun w _ s₁ mg mb fa _ _ _ _ a vs ns G Y _ _ _ hmg there nums few gens => ?_
  have inK := stands w _ Y
  obtain ⟨fd, binds, ok⟩ := promise w mg fa _ inK G.T.g hmg
  exact law_callG inK G.T.g G.T.b G.T.builtins G.T.nolimit gens room (Nat.le_trans few short) nums there ok binds fun H hS => hsp _ H a ns few hS
end C2

namespace C2
set_option Elab.async false
set_option linter.all false
set_option maxRecDepth 100000
set_option maxHeartbeats 4000000
open PySem PySem.Spec PyProof.Rows L2
section
variable {P : Program} {w : World} {K : PySem.W.Frag} {mg : Str → Option Value} {base : Heap}
theorem frSeq {p : Addr} {H H' : Hp} {a : Addr} {xs : List V} (e : Fr p H H') (n : a ≠ p) (h : SqL K H a xs) : SqL K H' a xs := by
  rcases h with (h | ⟨o, h⟩) | h
  · exact .inl (.inl (e _ _ n h))
  · exact .inl (.inr ⟨o, e _ _ n h⟩)
  · exact .inr h
def spOf (K : PySem.W.Frag) : Sp := fun vs H Q _ => ∃ (p a : Addr) (xs : List V) (n : Nat), vs = [.ref p, .ref a] ∧ PotAt H p n ∧ n < 1000000 ∧ a ≠ p ∧ SqL K H a xs ∧ 0 < xs.length ∧ xs.length < 1000000 ∧
  ∀ v H', Fr p H H' → PotAt H' p (n + 1) → v ∈ xs → Q v H'
theorem ok_of {f fT : Addr} {fd fdT : FuncData} {k : Nat} (F : Fun K "_law_of" "_law_of" sOf f fd) (FT : Fun K "_law_take" "_law_take" sTake fT fdT) (bT : Binds K fdT ["_law_pot_here", "_law_many"] []) (gT : mg "_law_take" = some (.ref fT)) (ml : mg "len" = none) : FnOk P w K mg base CX0 (k + 2) f fd ["_law_pot_here", "_law_some"] (spOf K) := by
  have GT : FnOk P w K mg base CX0 (k + 1) fT fdT ["_law_pot_here", "_law_many"] spTake := ok_take FT
  refine F.ok scOf (fun vs H Q E h => ?_) (fun cdv A outer s H vs Q E hr h => ?_)
  · obtain ⟨p, a, xs, n, rfl, _⟩ := h
    rfl
  · obtain ⟨p, a, xs, n, rfl, hP, hn, hap, hS, h0, h1, q⟩ := h
    refine ⟨_, pss_one (ps_ret (pe_ix ix_list (pv 1) (pe_call GT hr (by rfl) gT FT.kp bT .nil pass0 (pa_cons (pv 0) (pa_cons (pe_callB call_len_seq (by rfl) ml PySem.boot_len (pa_cons (pv 1) pa_nil)) pa_nil))) (fun _ _ => rfl))), ?_⟩
    refine ⟨.ref a, rfl, .ref p, rfl, .ref a, rfl, a, _, rfl, .inl hS, p, _, n, rfl, hP, hn, by omega, by omega, fun d H1 fr hP1 d0 d1 => ?_⟩
    have hd : d.toNat < xs.length := by omega
    have ed : d = (d.toNat : Int) := by omega
    refine ⟨a, _, d, xs[d.toNat], rfl, rfl, frSeq fr hap hS, at_of ed (List.getElem?_eq_getElem hd), ?_⟩
    exact q _ _ fr hP1 (List.getElem_mem hd)
def rLen (K : PySem.W.Frag) : List V → Hp → VK → Prop := fun xs H Q => ∃ p ys, xs = [.ref p] ∧ (SqL K H p ys ∨ SqT K H p ys) ∧ Q (.int (ys.length : Nat)) H
end
end C2

namespace C2
set_option Elab.async false
set_option linter.all false
set_option maxRecDepth 100000
set_option maxHeartbeats 4000000
open PySem PySem.Spec PyProof.Rows L2
abbrev vrefs (cs : List (Addr × List V)) : List V := cs.map fun c => V.ref c.1
def CellsV (G : Hp) (cs : List (Addr × List V)) : Prop := ∀ c ∈ cs, G c.1 = some (.tup c.2)
theorem CellsV.same {G G' : Hp} {cs : List (Addr × List V)} (h : CellsV G cs) (s : Same G G') : CellsV G' cs := fun c hc => s _ _ (h c hc)
def GrowV (xs : List (List V)) (H : Hp) (D : Addr) (G : Hp) : Prop := ∃ cs : List (Addr × List V), Same H G ∧ G D = some (.lst (vrefs cs)) ∧ CellsV G cs ∧ cs.map (·.2) = xs
theorem GrowV.step {xs : List (List V)} {y : List V} {H G G2 : Hp} {D T : Addr} (I : GrowV xs H D G) (lo : xs.length < 100000) (nD : H D = none) (sm2 : Same G G2) (nT : G T = none) (hT : G2 T = some (.tup y)) :
    ∃ acc, G2 D = some (.lst acc) ∧ acc.length < sizeLine ∧ GrowV (xs ++ [y]) H D (upd G2 D (.lst (acc ++ [.ref T]))) := by
  obtain ⟨cs, sm, hD, hcs, e⟩ := I
  have ln : cs.length < 100000 := by
    have e1 : cs.length = (cs.map (·.2)).length := (List.length_map _).symm
    rw [e1, e]
    exact lo
  have hne : T ≠ D := fun z => by rw [z, hD] at nT; cases nT
  refine ⟨vrefs cs, sm2 _ _ hD, ?_, cs ++ [(T, y)], ?_, ?_, ?_, ?_⟩
  · rw [List.length_map]
    exact Nat.lt_of_lt_of_le ln (by decide)
  · intro b o eb
    rw [upd_ne (ne_of_none eb nD)]
    exact sm2 _ _ (sm _ _ eb)
  · rw [upd_same]
    show _ = some (HO.lst (List.map _ (cs ++ [_])))
    rw [List.map_append]
    rfl
  · intro c hc
    rcases List.mem_append.mp hc with hc | hc
    · have hh := hcs c hc
      rw [upd_ne (ne_of hh hD (by intro z; cases z))]
      exact sm2 _ _ hh
    · rw [List.mem_singleton] at hc
      subst hc
      rw [upd_ne hne]
      exact hT
  · rw [List.map_append, e]
    rfl
theorem GrowV.len {xs : List (List V)} {H G : Hp} {D : Addr} (I : GrowV xs H D G) : ∃ ys, G D = some (.lst ys) ∧ ys.length = xs.length := by
  obtain ⟨cs, _, h, _, e⟩ := I
  exact ⟨_, h, by rw [List.length_map, ← e, List.length_map]⟩
theorem GrowV.ext {xs ys : List (List V)} {H G G' : Hp} {D l : Addr} (I : GrowV xs H l G) (J : GrowV ys G D G') (nl : H l = none) :
    ∃ as bs, G' l = some (.lst as) ∧ G' D = some (.lst bs) ∧ as.length = xs.length ∧ bs.length = ys.length ∧ GrowV (xs ++ ys) H l (upd G' l (.lst (as ++ bs))) := by
  obtain ⟨cs, sm, hl, hc, e⟩ := I
  obtain ⟨ds, sm2, hD, hd, e2⟩ := J
  have hl2 := sm2 _ _ hl
  refine ⟨_, _, hl2, hD, by rw [List.length_map, ← e, List.length_map], by rw [List.length_map, ← e2, List.length_map], cs ++ ds, ?_, ?_, ?_, ?_⟩
  · intro b o eb
    rw [upd_ne (ne_of_none eb nl)]
    exact sm2 _ _ (sm _ _ eb)
  · rw [upd_same]
    show _ = some (HO.lst (List.map _ (cs ++ ds)))
    rw [List.map_append]
  · intro c hcc
    rcases List.mem_append.mp hcc with hcc | hcc
    · have hh := sm2 _ _ (hc c hcc)
      rw [upd_ne (ne_of hh hl2 (by intro z; cases z))]
      exact hh
    · have hh := hd c hcc
      rw [upd_ne (ne_of hh hl2 (by intro z; cases z))]
      exact hh
  · rw [List.map_append, e, e2]
theorem getD_at {vs : List Int} {i : Nat} {x : V} (h : (vs.map V.int)[i]? = some x) : i < vs.length ∧ x = .int (vs.getD i 0) := by
  have hi : i < vs.length := by
    have := (List.getElem?_eq_some_iff.mp h).1
    rw [List.length_map] at this
    exact this
  refine ⟨hi, ?_⟩
  rw [List.getElem?_map, List.getElem?_eq_getElem hi] at h
  rw [List.getD_eq_getElem?_getD, List.getElem?_eq_getElem hi]
  exact (Option.some.inj h).symm
theorem atD {vs : List Int} {i : Nat} (hi : i < vs.length) : atI (vs.map V.int) (i : Int) = some (.int (vs.getD i 0)) := by
  refine atI_nat ?_
  rw [List.getElem?_map, List.getElem?_eq_getElem hi, List.getD_eq_getElem?_getD, List.getElem?_eq_getElem hi]
  rfl
/-- a thing: a tuple of these, or none -/
inductive Thg (G : Hp) : V → Option (List V) → Prop where
  | non : Thg G .non none
  | bl (b : Bool) : Thg G (.bl b) none
  | int (i : Int) : Thg G (.int i) none
  | str (x : Str) : Thg G (.str x) none
  | lst {a : Addr} {xs : List V} (e : G a = some (.lst xs)) : Thg G (.ref a) none
  | dK {a : Addr} {kvs : List (Key × V)} (e : G a = some (.dK kvs)) : Thg G (.ref a) none
  | tup {a : Addr} {xs : List V} (e : G a = some (.tup xs)) : Thg G (.ref a) (some xs)
theorem Thg.same {G G' : Hp} {v : V} {o : Option (List V)} (h : Thg G v o) (s : Same G G') : Thg G' v o := by
  cases h with
  | non => exact .non
  | bl b => exact .bl b
  | int i => exact .int i
  | str x => exact .str x
  | lst e => exact .lst (s _ _ e)
  | dK e => exact .dK (s _ _ e)
  | tup e => exact .tup (s _ _ e)
def isIB : V → Bool
  | .int _ => true
  | .bl _ => true
  | _ => false
def isBo : V → Bool
  | .bl _ => true
  | _ => false
def isSt : V → Bool
  | .str _ => true
  | _ => false
def isIn : V → Bool
  | .int _ => true
  | _ => false
theorem isIn_int : ∀ {v : V}, isIn v = true → ∃ i, v = .int i
  | .int i, _ => ⟨i, rfl⟩
theorem isIB_not : ∀ {v : V}, isIB v = true → (!isBo v) = isIn v
  | .int _, _ => rfl
  | .bl _, _ => rfl
theorem isIB_int : ∀ {v : V}, isIB v = true → isBo v = false → ∃ i, v = .int i
  | .int i, _, _ => ⟨i, rfl⟩
theorem isIB_no : ∀ {v : V}, ¬ isIB v = true → isIn v = false
  | .int _, e => absurd rfl e
  | .bl _, _ | .non, _ | .str _, _ | .byt _, _ | .flt _, _ | .ref _, _ | .ty _, _ => rfl
theorem isSt_str : ∀ {v : V}, isSt v = true → ∃ x, v = .str x
  | .str x, _ => ⟨x, rfl⟩
def betw : V → Int → Int → Bool
  | .int i, lo, hi => decide (lo ≤ i ∧ i ≤ hi)
  | _, _, _ => false
theorem betw_no : ∀ {v : V} {lo hi : Int}, isIn v = false → betw v lo hi = false
  | .bl _, _, _, _ | .non, _, _, _ | .str _, _, _, _ | .byt _, _, _, _ | .flt _, _, _, _ | .ref _, _, _, _ | .ty _, _, _, _ => rfl
theorem Thg.some_tup {G : Hp} {v : V} {xs : List V} (h : Thg G v (some xs)) : ∃ a, v = .ref a ∧ G a = some (.tup xs) := by
  cases h with
  | tup e => exact ⟨_, rfl, e⟩
theorem Thg.kit {K : PySem.W.Frag} {G : Hp} {v : V} {o : Option (List V)} (h : Thg G v o) : ∃ n, TyX K G v (.type n) ∧ kitB n "int" = some (isIB v) ∧ kitB n "bool" = some (isBo v) ∧ kitB n "tuple" = some o.isSome ∧ kitB n "str" = some (isSt v) := by
  cases h with
  | non => exact ⟨_, .base .non, by decide +kernel, by decide +kernel, by decide +kernel, by decide +kernel⟩
  | bl b => exact ⟨_, .base (.bl b), (by decide +kernel : kitB "bool" "int" = some true), (by decide +kernel : kitB "bool" "bool" = some true), by decide +kernel, (by decide +kernel : kitB "bool" "str" = some false)⟩
  | int i => exact ⟨_, .base (.int i), (by decide +kernel : kitB "int" "int" = some true), (by decide +kernel : kitB "int" "bool" = some false), by decide +kernel, (by decide +kernel : kitB "int" "str" = some false)⟩
  | str x => exact ⟨_, .base (.str x), (by decide +kernel : kitB "str" "int" = some false), (by decide +kernel : kitB "str" "bool" = some false), by decide +kernel, (by decide +kernel : kitB "str" "str" = some true)⟩
  | lst e => exact ⟨_, .base (.lst e), (by decide +kernel : kitB "list" "int" = some false), (by decide +kernel : kitB "list" "bool" = some false), by decide +kernel, (by decide +kernel : kitB "list" "str" = some false)⟩
  | dK e => exact ⟨_, .base (.dK e), (by decide +kernel : kitB "dict" "int" = some false), (by decide +kernel : kitB "dict" "bool" = some false), by decide +kernel, (by decide +kernel : kitB "dict" "str" = some false)⟩
  | tup e => exact ⟨_, .base (.tup e), (by decide +kernel : kitB "tuple" "int" = some false), (by decide +kernel : kitB "tuple" "bool" = some false), (by decide +kernel : kitB "tuple" "tuple" = some true), (by decide +kernel : kitB "tuple" "str" = some false)⟩
section
variable {P : Program} {w : World} {K : PySem.W.Frag} {mg : Str → Option Value} {base : Heap}
theorem scPWhole : FnScope ["thing"] ["thing"] (defScope sPWhole) := ⟨rfl, rfl, rfl, by decide +kernel, rfl, by decide +kernel, by decide +kernel⟩
theorem scBetween : FnScope ["thing", "least", "most"] ["thing", "least", "most"] (defScope sBetween) := ⟨rfl, rfl, rfl, by decide +kernel, rfl, by decide +kernel, by decide +kernel⟩
theorem scTupOf : FnScope ["thing", "many"] ["thing", "many"] (defScope sTupOf) := ⟨rfl, rfl, rfl, by decide +kernel, rfl, by decide +kernel, by decide +kernel⟩
def spPWhole : Sp := fun vs H Q _ => ∃ v o, vs = [v] ∧ Thg H v o ∧ Q (.bl (isIn v)) H
theorem ok_pwhole {f : Addr} {fd : FuncData} {k : Nat} (F : Fun K "is_whole" "is_whole" sPWhole f fd) (mi : mg "isinstance" = none) (mint : mg "int" = none) (mbool : mg "bool" = none) : FnOk P w K mg base CX0 (k + 1) f fd ["thing"] spPWhole := by
  refine F.ok scPWhole (fun vs H Q E h => ?_) (fun cdv A outer s H vs Q E hr h => ?_)
  · obtain ⟨v, o, rfl, _⟩ := h
    rfl
  · obtain ⟨v, o, rfl, t, q⟩ := h
    obtain ⟨n, ty, k1, k2, _, _⟩ := t.kit (K := K)
    refine ⟨_, pss_one (ps_ret (pe_and (pe_callB call_isi (by rfl) mi (by decide +kernel) (pa_cons (pv 0) (pa_cons (pe_bltn (v := .ty "int") (by rfl) mint (by decide +kernel) rfl) pa_nil))) (pe_one (pe_not (pe_callB call_isi (by rfl) mi (by decide +kernel) (pa_cons (pv 0) (pa_cons (pe_bltn (v := .ty "bool") (by rfl) mbool (by decide +kernel) rfl) pa_nil))))))), ?_⟩
    refine ⟨v, rfl, v, .ty "int", _, _, _, rfl, .ty "int", ty, kit_ty k1, _, rfl, ite2 (fun e => ?_) (fun e => ?_)⟩
    · refine ⟨v, rfl, v, .ty "bool", _, _, _, rfl, .ty "bool", ty, kit_ty k2, _, rfl, ?_⟩
      have z : (!isBo v) = isIn v := isIB_not e
      show Q (V.bl (!isBo v)) H
      rw [z]
      exact q
    · have z : false = isIn v := (isIB_no e).symm
      show Q (V.bl false) H
      rw [z]
      exact q
def spBetween : Sp := fun vs H Q _ => ∃ v o lo hi, vs = [v, .int lo, .int hi] ∧ Thg H v o ∧ Q (.bl (betw v lo hi)) H
theorem ok_between {f fW : Addr} {fd fdW : FuncData} {k : Nat} (F : Fun K "is_between" "is_between" sBetween f fd) (FW : Fun K "is_whole" "is_whole" sPWhole fW fdW) (bW : Binds K fdW ["thing"] []) (gW : mg "is_whole" = some (.ref fW)) (mi : mg "isinstance" = none) (mint : mg "int" = none) (mbool : mg "bool" = none) : FnOk P w K mg base CX0 (k + 2) f fd ["thing", "least", "most"] spBetween := by
  have GW : FnOk P w K mg base CX0 (k + 1) fW fdW ["thing"] spPWhole := ok_pwhole FW mi mint mbool
  refine F.ok scBetween (fun vs H Q E h => ?_) (fun cdv A outer s H vs Q E hr h => ?_)
  · obtain ⟨v, o, lo, hi, rfl, _⟩ := h
    rfl
  · obtain ⟨v, o, lo, hi, rfl, t, q⟩ := h
    refine ⟨_, pss_one (ps_ret (pe_and (pe_call GW hr (by rfl) gW FW.kp bW .nil pass0 (pa_cons (pv 0) pa_nil)) (pe_one (pe_chain op_le op_le (pv 1) (pv 0) (pv 2))))), ?_⟩
    refine ⟨v, rfl, v, o, rfl, t, _, rfl, ite2 (fun e => ?_) (fun e => ?_)⟩
    · obtain ⟨i, rfl⟩ := isIn_int e
      refine ⟨.int lo, rfl, .int i, rfl, lo, i, rfl, rfl, _, rfl, ite2 (fun e1 => ?_) (fun e1 => ?_)⟩
      · refine ⟨.int hi, rfl, i, hi, rfl, rfl, ?_⟩
        have e2 := of_decide_eq_true e1
        have z : decide (i ≤ hi) = betw (.int i) lo hi := by
          show _ = decide (_ ∧ _)
          by_cases y : i ≤ hi <;> simp [y, e2]
        show Q (V.bl (decide (i ≤ hi))) H
        rw [z]
        exact q
      · have e2 : ¬ lo ≤ i := fun y => e1 (decide_eq_true y)
        have z : false = betw (.int i) lo hi := by
          show _ = decide (_ ∧ _)
          rw [decide_eq_false (by omega)]
        show Q (V.bl false) H
        rw [z]
        exact q
    · have z : false = betw v lo hi := (betw_no (Bool.eq_false_iff.mpr e)).symm
      show Q (V.bl false) H
      rw [z]
      exact q
def lenIs (o : Option (List V)) (m : Int) : Bool := match o with
  | some xs => decide ((xs.length : Int) = m)
  | none => false
def spTupOf : Sp := fun vs H Q _ => ∃ v o m, vs = [v, .int m] ∧ Thg H v o ∧ Q (.bl (lenIs o m)) H
theorem ok_tupOf {f : Addr} {fd : FuncData} {k : Nat} (F : Fun K "is_tuple_of" "is_tuple_of" sTupOf f fd) (mi : mg "isinstance" = none) (mtup : mg "tuple" = none) (ml : mg "len" = none) : FnOk P w K mg base CX0 (k + 1) f fd ["thing", "many"] spTupOf := by
  refine F.ok scTupOf (fun vs H Q E h => ?_) (fun cdv A outer s H vs Q E hr h => ?_)
  · obtain ⟨v, o, m, rfl, _⟩ := h
    rfl
  · obtain ⟨v, o, m, rfl, t, q⟩ := h
    obtain ⟨n, ty, _, _, k3, _⟩ := t.kit (K := K)
    refine ⟨_, pss_one (ps_ret (pe_and (pe_callB call_isi (by rfl) mi (by decide +kernel) (pa_cons (pv 0) (pa_cons (pe_bltn (v := .ty "tuple") (by rfl) mtup (by decide +kernel) rfl) pa_nil))) (pe_one (pe_cmpR op_eq (pe_callB call_len_seq (by rfl) ml (by decide +kernel) (pa_cons (pv 0) pa_nil)) (pv 1) (nomark _))))), ?_⟩
    refine ⟨v, rfl, v, .ty "tuple", _, _, _, rfl, .ty "tuple", ty, kit_ty k3, _, rfl, ite2 (fun e => ?_) (fun e => ?_)⟩
    · obtain ⟨xs, rfl⟩ : ∃ xs, o = some xs := by
        cases o with
        | none => cases (show false = true from e)
        | some xs => exact ⟨xs, rfl⟩
      obtain ⟨a, rfl, ea⟩ := t.some_tup
      refine ⟨.ref a, rfl, a, xs, rfl, .inr (.inl (.inl ea)), .int m, rfl, rfl, ?_⟩
      have z : decide (V.int (xs.length : Nat) = V.int m) = lenIs (some xs) m := by
        show _ = decide _
        by_cases y : (xs.length : Int) = m <;> simp [y]
      rw [z]
      exact q
    · have z : false = lenIs o m := by
        cases o with
        | none => rfl
        | some xs => exact absurd rfl e
      show Q (V.bl false) H
      rw [z]
      exact q
end
end C2

namespace C2
set_option Elab.async false
set_option linter.all false
set_option maxRecDepth 100000
set_option maxHeartbeats 1000000
open PySem PySem.Spec PyProof.Rows L2 HT
/-! ### things: data of any kind, dicts of one text too -/
def FrX (E : Addr → Prop) (H H' : Hp) : Prop := ∀ b o, ¬ E b → H b = some o → H' b = some o
theorem FrX.same {E : Addr → Prop} {H H' : Hp} (s : Same H H') : FrX E H H' := fun b o _ h => s b o h
theorem FrX.of {N : Addr → Prop} {p : Addr} {H H' : Hp} (f : Fr p H H') (np : N p) : FrX N H H' := fun b o nb h => f b o (fun z => nb (z ▸ np)) h
mutual
/-- the thing v holds the data d, and no part of it stands in E -/
inductive Dq (E : Addr → Prop) (H : Hp) : V → PyData → Prop
  | non : Dq E H .non .none
  | bl (b : Bool) : Dq E H (.bl b) (.bool b)
  | int (i : Int) : Dq E H (.int i) (.int i)
  | str (x : Str) : Dq E H (.str x) (.str x)
  | lst {a : Addr} {xs : List V} {ds : List PyData} (e : H a = some (.lst xs)) (n : ¬ E a) (y : sysModules ≠ a) (h : DqAll E H xs ds) : Dq E H (.ref a) (.list ds)
  | tup {a : Addr} {xs : List V} {ds : List PyData} (e : H a = some (.tup xs)) (n : ¬ E a) (h : DqAll E H xs ds) : Dq E H (.ref a) (.tuple ds)
  | dic {a : Addr} {kvs : List (Str × V)} {des : List (PyData × PyData)} (e : H a = some (.dK (kvs.map fun kv => (Sum.inr kv.1, kv.2)))) (n : ¬ E a) (h : DqKv E H kvs des) : Dq E H (.ref a) (.dict des)
inductive DqAll (E : Addr → Prop) (H : Hp) : List V → List PyData → Prop
  | nil : DqAll E H [] []
  | cons {v : V} {vs : List V} {d : PyData} {ds : List PyData} (h : Dq E H v d) (t : DqAll E H vs ds) : DqAll E H (v :: vs) (d :: ds)
inductive DqKv (E : Addr → Prop) (H : Hp) : List (Str × V) → List (PyData × PyData) → Prop
  | nil : DqKv E H [] []
  | one {k : Str} {v : V} {d : PyData} (h : Dq E H v d) : DqKv E H [(k, v)] [(.str k, d)]
end
mutual
theorem Dq.fr {E : Addr → Prop} {H H' : Hp} (f : FrX E H H') : ∀ (d : PyData) {v : V}, Dq E H v d → Dq E H' v d
  | .none, _, h => by cases h; exact .non
  | .bool b, _, h => by cases h; exact .bl b
  | .int i, _, h => by cases h; exact .int i
  | .str x, _, h => by cases h; exact .str x
  | .list ds, _, h => by
    cases h with
    | lst e n y t => exact .lst (f _ _ n e) n y (DqAll.fr f ds t)
  | .tuple ds, _, h => by
    cases h with
    | tup e n t => exact .tup (f _ _ n e) n (DqAll.fr f ds t)
  | .dict [], _, h => by
    cases h with
    | dic e n t => cases t; exact .dic (kvs := []) (f _ _ n e) n .nil
  | .dict [(.str k, d)], _, h => by
    cases h with
    | dic e n t =>
      cases t with
      | one h => exact .dic (kvs := [(k, _)]) (f _ _ n e) n (.one (Dq.fr f d h))
  | .dict ((.none, _) :: _), _, h => by cases h with | dic e n t => cases t
  | .dict ((.bool _, _) :: _), _, h => by cases h with | dic e n t => cases t
  | .dict ((.int _, _) :: _), _, h => by cases h with | dic e n t => cases t
  | .dict ((.list _, _) :: _), _, h => by cases h with | dic e n t => cases t
  | .dict ((.tuple _, _) :: _), _, h => by cases h with | dic e n t => cases t
  | .dict ((.dict _, _) :: _), _, h => by cases h with | dic e n t => cases t
  | .dict ((.str _, _) :: _ :: _), _, h => by cases h with | dic e n t => cases t
theorem DqAll.fr {E : Addr → Prop} {H H' : Hp} (f : FrX E H H') : ∀ (ds : List PyData) {vs : List V}, DqAll E H vs ds → DqAll E H' vs ds
  | [], _, h => by cases h; exact .nil
  | d :: ds, _, h => by
    cases h with
    | cons x t => exact .cons (Dq.fr f d x) (DqAll.fr f ds t)
end
end C2

namespace C2
set_option Elab.async false
set_option linter.all false
set_option maxRecDepth 100000
set_option maxHeartbeats 1000000
open PySem PySem.Spec PyProof.Rows L2 HT
theorem DqAll.len {E : Addr → Prop} {H : Hp} : ∀ {ds : List PyData} {vs : List V}, DqAll E H vs ds → vs.length = ds.length
  | [], _, h => by cases h; rfl
  | d :: ds, _, h => by
    cases h with
    | cons x t => rw [List.length_cons, List.length_cons, DqAll.len t]
theorem DqAll.app {E : Addr → Prop} {H : Hp} : ∀ {ds es : List PyData} {vs ws : List V}, DqAll E H vs ds → DqAll E H ws es → DqAll E H (vs ++ ws) (ds ++ es)
  | [], _, _, _, h, t => by cases h; exact t
  | d :: ds, _, _, _, h, t => by
    cases h with
    | cons x y => exact .cons x (DqAll.app y t)
theorem DqAll.nth {E : Addr → Prop} {H : Hp} : ∀ {ds : List PyData} {vs : List V} {v : V}, DqAll E H vs ds → v ∈ vs → ∃ d, d ∈ ds ∧ Dq E H v d
  | [], _, _, h, e => by cases h; cases e
  | d :: ds, _, v, h, e => by
    cases h with
    | cons x y =>
      rcases List.mem_cons.mp e with rfl | e
      · exact ⟨d, List.mem_cons_self, x⟩
      · obtain ⟨d', h1, h2⟩ := DqAll.nth y e
        exact ⟨d', List.mem_cons_of_mem _ h1, h2⟩
theorem DqAll.take {E : Addr → Prop} {H : Hp} : ∀ {ds : List PyData} {vs : List V} (n : Nat), DqAll E H vs ds → DqAll E H (vs.take n) (ds.take n)
  | [], _, n, h => by cases h; simp; exact .nil
  | d :: ds, _, 0, h => .nil
  | d :: ds, _, n + 1, h => by
    cases h with
    | cons x y => exact .cons x (DqAll.take n y)
theorem DqAll.drop {E : Addr → Prop} {H : Hp} : ∀ {ds : List PyData} {vs : List V} (n : Nat), DqAll E H vs ds → DqAll E H (vs.drop n) (ds.drop n)
  | [], _, n, h => by cases h; simp; exact .nil
  | d :: ds, _, 0, h => h
  | d :: ds, _, n + 1, h => by
    cases h with
    | cons x y => exact DqAll.drop n y
theorem DqAll.rev {E : Addr → Prop} {H : Hp} : ∀ {ds : List PyData} {vs : List V}, DqAll E H vs ds → DqAll E H vs.reverse ds.reverse
  | [], _, h => by cases h; exact .nil
  | d :: ds, _, h => by
    cases h with
    | cons x y =>
      have z := (DqAll.rev y).app (DqAll.cons x .nil)
      simpa using z
theorem Dq.thg {E : Addr → Prop} {H : Hp} {v : V} {d : PyData} (h : Dq E H v d) : ∃ o, Thg H v o ∧ (∀ xs, o = some xs → ∃ ds, d = .tuple ds ∧ DqAll E H xs ds) ∧ (o = none → ∀ ds, d ≠ .tuple ds) := by
  cases h with
  | non => exact ⟨none, .non, (fun _ e => nomatch e), (fun _ _ e => nomatch e)⟩
  | bl b => exact ⟨none, .bl b, (fun _ e => nomatch e), (fun _ _ e => nomatch e)⟩
  | int i => exact ⟨none, .int i, (fun _ e => nomatch e), (fun _ _ e => nomatch e)⟩
  | str x => exact ⟨none, .str x, (fun _ e => nomatch e), (fun _ _ e => nomatch e)⟩
  | lst e n y t => exact ⟨none, .lst e, (fun _ e => nomatch e), (fun _ _ e => nomatch e)⟩
  | tup e n t => exact ⟨_, .tup e, (fun xs e => by cases e; exact ⟨_, rfl, t⟩), (fun e => nomatch e)⟩
  | dic e n t => exact ⟨none, .dK e, (fun _ e => nomatch e), (fun _ _ e => nomatch e)⟩
section
variable {X : Cx} {pins : List (Addr × Obj)} {σ : L2.St} {H : Hp} {s : Shared}
/-- a dict of one text, or of none -/
theorem dic_reads {a : Addr} {kvs : List (Str × V)} (I : Inv X pins σ H s) (e : H a = some (.dK (kvs.map fun kv => (Sum.inr kv.1, kv.2)))) (few : kvs.length ≤ 1) :
    sysModules ≠ a ∧ ∃ o es n, s.heap.get? a = some o ∧ o.cls = .type "dict" ∧ o.data = .dict es n ∧ ((kvs = [] ∧ es.toList = []) ∨ ∃ k v u t en, kvs = [(k, v)] ∧ RelV v u ∧ es.toList = [en] ∧ en.key = .str k t ∧ en.val = u) := by
  obtain ⟨_, ns, vs, kv, o, es, ep, g, xd, dt, _, prs, _⟩ := dk_of I.hok e
  refine ⟨fun z => beq_eq_false_iff_ne.mp ns z.symm, o, es, ep, g, xd.1, dt, ?_⟩
  match kvs, few with
  | [], _ =>
    cases kv
    cases q : es.toList with
    | nil => exact .inl ⟨rfl, rfl⟩
    | cons y ys => rw [q] at prs; cases prs
  | [(k, v)], _ =>
    obtain ⟨u, rfl, ru⟩ : ∃ u, vs = [(Sum.inr k, u)] ∧ RelV v u := by
      cases kv with
      | cons h t =>
        cases t
        rename_i w _
        exact ⟨w.2, by rw [show (Sum.inr k : Key) = w.1 from h.1], h.2⟩
    cases q : es.toList with
    | nil => rw [q] at prs; cases prs
    | cons y ys =>
      rw [q] at prs
      cases prs with
      | cons h1 h2 h3 =>
        cases h3
        have h1' : keyIs (Sum.inr k) y.key = true := h1
        rcases keyIs_shape h1' with ⟨_, _, z, _⟩ | ⟨x, t, z, w⟩
        · cases z
        · cases z
          exact .inr ⟨k, v, u, t, y, rfl, ru, rfl, w, h2⟩
mutual
theorem Dq.reads {E : Addr → Prop} (I : Inv X pins σ H s) : ∀ (d : PyData) {v : V} {u : Value}, Dq E H v d → RelV v u → ∃ as, Reads s.heap u d as ∧ sysModules ∉ as
  | .none, _, _, h, r => by cases h; cases r; exact ⟨[], .none, List.not_mem_nil⟩
  | .bool b, _, _, h, r => by cases h; cases r; exact ⟨[], .bool b, List.not_mem_nil⟩
  | .int i, _, _, h, r => by
    cases h
    obtain ⟨t, rfl⟩ := r
    exact ⟨[], .int i t, List.not_mem_nil⟩
  | .str x, _, _, h, r => by
    cases h
    obtain ⟨t, rfl⟩ := r
    exact ⟨[], .str x t, List.not_mem_nil⟩
  | .list ds, _, _, h, r => by
    cases h with
    | lst e n y t =>
      cases r
      obtain ⟨us, rv, ⟨ob, m, g, c, _, dt⟩, _⟩ := I.list (.inl (.inl e))
      obtain ⟨as, rd, no⟩ := DqAll.reads I ds t rv
      exact ⟨_, .list g c dt rd, fun z => (List.mem_cons.mp z).elim y no⟩
  | .tuple ds, _, _, h, r => by
    cases h with
    | tup e n t =>
      cases r
      obtain ⟨us, rv, ⟨ob, g, c, m, dt⟩, _⟩ := I.tuple (.inl (.inl e))
      obtain ⟨as, rd, no⟩ := DqAll.reads I ds t rv
      exact ⟨_, .tuple g c dt rd, no⟩
  | .dict [], _, _, h, r => by
    cases h with
    | dic e n t =>
      cases t
      cases r
      obtain ⟨ns, o, es, m, g, c, dt, h⟩ := dic_reads (kvs := []) I e (by decide)
      rcases h with ⟨_, e0⟩ | ⟨_, _, _, _, _, z, _⟩
      · refine ⟨_, .dict (kvs := []) (as := []) (bs := []) g c dt (by rw [e0]; exact .nil) (by rw [e0]; exact .nil), fun z => ?_⟩
        simp at z
        exact ns z
      · cases z
  | .dict [(.str k, d)], _, _, h, r => by
    cases h with
    | dic e n t =>
      cases t with
      | one hv =>
        cases r
        obtain ⟨ns, o, es, m, g, c, dt, h⟩ := dic_reads (kvs := [(k, _)]) I e (by show 1 ≤ 1; decide)
        rcases h with ⟨z, _⟩ | ⟨k', v', u', t', en, z, ru, e1, ek, ev⟩
        · cases z
        · cases z
          obtain ⟨as, rd, no⟩ := Dq.reads I d hv ru
          refine ⟨_, .dict (kvs := [(.str k, d)]) (as := [] ++ []) (bs := as ++ []) g c dt (by rw [e1]; show ReadsAll _ [en.key] [PyData.str k] _; rw [ek]; exact .cons (.str k t') .nil) (by rw [e1]; show ReadsAll _ [en.val] [d] _; rw [ev]; exact .cons rd .nil), fun z => ?_⟩
          simp at z
          rcases z with z | z
          · exact ns z
          · exact no z
  | .dict ((.none, _) :: _), _, _, h, _ => by cases h with | dic e n t => cases t
  | .dict ((.bool _, _) :: _), _, _, h, _ => by cases h with | dic e n t => cases t
  | .dict ((.int _, _) :: _), _, _, h, _ => by cases h with | dic e n t => cases t
  | .dict ((.list _, _) :: _), _, _, h, _ => by cases h with | dic e n t => cases t
  | .dict ((.tuple _, _) :: _), _, _, h, _ => by cases h with | dic e n t => cases t
  | .dict ((.dict _, _) :: _), _, _, h, _ => by cases h with | dic e n t => cases t
  | .dict ((.str _, _) :: _ :: _), _, _, h, _ => by cases h with | dic e n t => cases t
theorem DqAll.reads {E : Addr → Prop} (I : Inv X pins σ H s) : ∀ (ds : List PyData) {vs : List V} {us : List Value}, DqAll E H vs ds → Vals vs us → ∃ as, ReadsAll s.heap us ds as ∧ sysModules ∉ as
  | [], _, _, h, r => by cases h; cases r; exact ⟨[], .nil, List.not_mem_nil⟩
  | d :: ds, _, _, h, r => by
    cases h with
    | cons x t =>
      cases r with
      | cons rx rt =>
        obtain ⟨as, a1, a2⟩ := Dq.reads I d x rx
        obtain ⟨bs, b1, b2⟩ := DqAll.reads I ds t rt
        exact ⟨_, .cons a1 b1, fun z => (List.mem_append.mp z).elim a2 b2⟩
end
/-- repr by what it shows -/
def Shows (G : Hp) (v : V) (S : Str) : Prop := ∃ (E : Addr → Prop) (d : PyData), Dq E G v d ∧ d.showable = true ∧ d.depth ≤ 60 ∧ d.shown.length ≤ sizeLine ∧ S = d.shown
def rReprS : List V → Hp → VK → Prop := fun xs G Q => ∃ v S, xs = [v] ∧ Shows G v S ∧ Q (.str S) G
theorem call_reprS (room : X.A.units + 64 < cLine) (hgd : X.A.guards = some []) : CallR X (.builtin "repr") rReprS := by
  intro pins s σ G xs us R I r h
  obtain ⟨v, S, rfl, ⟨E, d, hd, sh, dp, ln, rfl⟩, q⟩ := h
  obtain ⟨u, rfl, rel⟩ := vals1 r
  cases d with
  | none =>
    cases hd
    cases rel
    exact PySem.P.repr_of_none ⟨.str "None", G, I.tok _, ⟨_, rfl⟩, q⟩
  | bool b =>
    cases hd
    cases rel
    refine PySem.P.repr_of_bool ⟨.str (if b then "True" else "False"), G, I.tok _, ⟨_, rfl⟩, ?_⟩
    cases b <;> exact q
  | int i =>
    cases hd
    obtain ⟨t, rfl⟩ := rel
    exact PySem.P.repr_of_int (of_decide_eq_true sh) ⟨.str (toString i), G, I.tok _, ⟨_, rfl⟩, q⟩
  | str x =>
    cases hd
    obtain ⟨t, rfl⟩ := rel
    exact PySem.P.repr_of_str ⟨.str (reprText x), G, I.tok _, ⟨_, rfl⟩, q⟩ ln
  | list ds =>
    obtain ⟨as, rd, no⟩ := Dq.reads I _ hd rel
    cases hd
    cases rel
    exact repr_of_reads' rd sh (fun _ => no) hgd (by omega) (fun _ _ e => e) (fun h' t tk kp => ⟨.str _, G, I.kept (t' := tk) kp, ⟨_, rfl⟩, q⟩) ln
  | tuple ds =>
    obtain ⟨as, rd, no⟩ := Dq.reads I _ hd rel
    cases hd
    cases rel
    exact repr_of_reads' rd sh (fun _ => no) hgd (by omega) (fun _ _ e => e) (fun h' t tk kp => ⟨.str _, G, I.kept (t' := tk) kp, ⟨_, rfl⟩, q⟩) ln
  | dict kvs =>
    obtain ⟨as, rd, no⟩ := Dq.reads I _ hd rel
    cases hd
    cases rel
    exact repr_of_reads' rd sh (fun _ => no) hgd (by omega) (fun _ _ e => e) (fun h' t tk kp => ⟨.str _, G, I.kept (t' := tk) kp, ⟨_, rfl⟩, q⟩) ln
/-! ### new lists are not where sys.modules stands -/
def tLstS (t : TA) : TE := fun σ H Q => t σ H fun xs H1 => xs.length ≤ sizeLine ∧ ∀ p, H1 p = none → sysModules ≠ p → Q (.ref p) (upd H1 p (.lst xs))
theorem pe_lstS {es : List Expr} {t : TA} {pos : Pos} (h : PA X es t) : PE X (.List es pos) (tLstS t) := by
  constructor
  intro pins s0 σ G R I0 hq
  refine wpAny_List_spliced (thn (h.run pos pins s0 σ G _ I0 hq) ?_)
  rintro us s1 ⟨xs, G1, I1, rel, small, q⟩
  have ne : sysModules ≠ s1.heap.objs.size := Nat.ne_of_lt I1.big
  refine ⟨by rw [← rel.length]; exact small, .ref s1.heap.objs.size, upd G1 s1.heap.objs.size (.lst xs), I1.laid (t' := s1.toks) (fun b u e => Heap.get?_push_of_some _ e) (Nat.le_refl _) ⟨small, us, 0, rel, Heap.get?_push_size _ rfl⟩, rfl, q _ (I1.hok.fresh (Nat.le_refl _)) ne⟩
/-- list(t), t a tuple -/
def rListS (K : PySem.W.Frag) : List V → Hp → VK → Prop := fun xs G Q => ∃ p ys, xs = [.ref p] ∧ SqT K G p ys ∧ ∀ l, G l = none → sysModules ≠ l → Q (.ref l) (upd G l (.lst ys))
theorem call_listS : CallR X (.type "list") (rListS X.K) := by
  intro pins s σ G xs us R I r h
  obtain ⟨p, ys, rfl, sq, q⟩ := h
  obtain ⟨u, rfl, rel⟩ := vals1 r
  cases rel
  obtain ⟨its, rv, ⟨o, at_, kind, n, dat⟩, small⟩ := I.tuple sq
  have len := rv.length
  have ne : sysModules ≠ s.heap.objs.size := Nat.ne_of_lt I.big
  refine call_list_seq p (.inr rfl) at_ kind dat (fun h' c' kp e => ?_) (by simp only [List.size_toArray] <;> omega)
  exact ⟨.ref s.heap.objs.size, _, I.laid (t' := s.toks) kp (Nat.le_refl _) (show ObjOk X.prog X.w _ h' _ (.lst ys) from ⟨small, its, c', rv, e⟩), rfl, q _ (I.hok.fresh (Nat.le_refl _)) ne⟩
end
end C2

namespace C2
set_option Elab.async false
set_option linter.all false
set_option maxRecDepth 100000
set_option maxHeartbeats 1000000
open PySem PySem.Spec PyProof.Rows L2 HT
/-! ### t[::-1] -/
theorem adjust_back (n : Nat) : Builtin.Slice.sliceAdjust none none (-1) (n : Int) = ((n : Int) - 1, -1) := rfl
theorem places_back (n : Nat) : Builtin.Slice.slicePlaces ((n : Int) - 1) (-1) (-1) = n := by
  unfold Builtin.Slice.slicePlaces
  rw [if_neg (by decide)]
  by_cases h : n = 0
  · subst h; rfl
  · rw [if_pos (by omega)]
    simp only [Int.neg_neg, Int.ediv_one]
    omega
theorem fm_congr {α β : Type} {f g : α → Option β} : ∀ {l : List α}, (∀ x ∈ l, f x = g x) → l.filterMap f = l.filterMap g
  | [], _ => rfl
  | x :: l, h => by rw [List.filterMap_cons, List.filterMap_cons, h x List.mem_cons_self, fm_congr fun y hy => h y (List.mem_cons_of_mem _ hy)]
theorem pick_back (us : List Value) : ((List.range us.length).filterMap fun k : Nat => us.toArray[((us.length : Int) - 1 + (k : Int) * (-1)).toNat]?).toArray = us.reverse.toArray := by
  congr 1
  have one : (List.range us.length).filterMap (fun k : Nat => us.toArray[((us.length : Int) - 1 + (k : Int) * (-1)).toNat]?) = ((List.range us.length).map fun k => us.length - 1 - k).filterMap (us.toArray[·]?) := by
    rw [List.filterMap_map]
    refine fm_congr fun k hk => ?_
    have := List.mem_range.mp hk
    show us.toArray[_]? = us.toArray[_]?
    rw [show ((us.length : Int) - 1 + (k : Int) * (-1)).toNat = us.length - 1 - k by omega]
  rw [one, PySem.W.krv_range, List.filterMap_reverse]
  have all := PySem.W.krv_all us.toArray
  rw [List.size_toArray] at all
  rw [all]
section
variable {prog : Program} {w : World} {A : Around} {E : Value → Shared → Prop} {s : Shared}
theorem applied_back {sl : Addr} {low top step : Value} {n : Nat} {Q : Int × Int × Nat → Shared → Prop} (hs : s.heap.IsSliceOf sl low top step) (pl : IsPart low none) (pt : IsPart top none) (ps : IsPart step (some (-1)))
    (fin : Q ((n : Int) - 1, -1, n) s) : wpAny (model prog w) A (Builtin.Slice.sliceApplied (.ref sl) (pure (n : Int))) Q E s := by
  obtain ⟨ob, at_, _, dat⟩ := id hs
  have three : ∀ {R : Value × Value × Value → Shared → Prop}, R (low, top, step) s → wpAny (model prog w) A (Builtin.Slice.sliceFields (.ref sl)) R E s := fun h =>
    wpAny_bind (wpAny_field at_ dat (x := low) rfl (wpAny_bind (wpAny_field at_ dat (x := top) rfl (wpAny_bind (wpAny_field at_ dat (x := step) rfl (wpAny_pure h))))))
  refine wpAny_bind (three (wpAny_bind (slicePart_ ps ?_)))
  show wpAny _ _ (if ((-1 : Int) == 0) = true then _ else _) _ _ _
  rw [if_neg (by decide)]
  refine wpAny_bind (slicePart_ pl (wpAny_bind (slicePart_ pt (wpAny_bind (wpAny_pure ?_)))))
  show wpAny _ _ (match Builtin.Slice.sliceAdjust none none (-1) (n : Int) with | (lo, hi) => pure (lo, (-1 : Int), Builtin.Slice.slicePlaces lo hi (-1))) _ _ _
  rw [adjust_back]
  show wpAny _ _ (pure ((n : Int) - 1, (-1 : Int), Builtin.Slice.slicePlaces ((n : Int) - 1) (-1) (-1))) _ _ _
  rw [places_back]
  exact wpAny_pure fin
theorem back_tup {t sl : Addr} {us : List Value} {low top step : Value} {Q : Value → Shared → Prop} (tup : IsTup s.heap t us.toArray) (hs : s.heap.IsSliceOf sl low top step) (pl : IsPart low none) (pt : IsPart top none) (ps : IsPart step (some (-1)))
    (fin : Q (.ref s.heap.objs.size) { s with heap := s.heap.push { cls := .type "tuple", data := .seq us.reverse.toArray } }) (few : us.length ≤ sizeLine) : wpAny (model prog w) A (getItem (.ref t) (.ref sl)) Q E s := by
  have lay : sizeOk (.seq us.reverse.toArray) := by
    show us.reverse.toArray.size ≤ sizeLine
    rw [List.size_toArray, List.length_reverse]
    exact few
  have isSl : s.TypeIs (.ref sl) "slice" := by
    obtain ⟨ob, at_, kind, _⟩ := id hs
    exact ⟨ob, at_, kind⟩
  unfold getItem
  refine wpAny_holding (wpAny_bind (wpAny_sequenceKey tup.typeIs (by decide) (wpAny_bind (wpAny_callSpecial?_slot (name := Str.ofString "__getitem__") tup.typeIs PyProof.Rows.slot_tuple_getitem (wpAny_call_entry PyProof.Rows.slot_tuple_getitem tup.typeIs entry_tuple_getitem ?_ (args_tuple_getitem _ _))))))
  show wpAny _ _ (Builtin.Tuple.tupleItemsOf (.ref t) >>= _) _ _ _
  refine wpAny_bind (tupleItemsOf_ tup (wpAny_bind (wpAny_typeOf isSl ?_)))
  rw [if_pos (by decide)]
  have sz : us.toArray.size = us.length := List.size_toArray
  rw [sz]
  refine wpAny_bind (applied_back (n := us.length) hs pl pt ps ?_)
  have no : ¬ (((us.length : Int) - 1 == 0 && (-1 : Int) == 1 && us.length == us.length) = true) := fun z => by
    rw [Bool.and_eq_true, Bool.and_eq_true] at z
    exact absurd z.1.2 (by decide)
  show wpAny _ _ (if ((us.length : Int) - 1 == 0 && (-1 : Int) == 1 && us.length == us.length) = true then _ else _) _ _ _
  rw [if_neg no, pick_back]
  exact wpAny_bind (m := Builtin.Tuple.tupleExact _) (wpAny_newObj_type (wpAny_pure ⟨_, rfl, wpAny_pure fin⟩) lay)
end
section
variable {X : Cx}
/-- t[::-1], t a tuple -/
def tBackT (K : PySem.W.Frag) (te : TE) : TE := fun σ H Q => te σ H fun x H1 => ∃ a xs, x = .ref a ∧ SqT K H1 a xs ∧ ∀ p, H1 p = none → Q (.ref p) (upd H1 p (.tup xs.reverse))
theorem pe_backT {e : Expr} {te : TE} {k : Nat} {p1 p2 p3 pos : Pos} (he : PE X e te) : PE X (.Subscript e (.Slice none none (some (.UnaryOp .USub (.Constant (.int 1) k p1) p2)) p3) pos) (tBackT X.K te) := by
  refine ⟨fun pins s0 σ H Q I0 h => Subscript_ (thn (he.run pins s0 σ H _ I0 h) fun v1 s1 ⟨x, H1, I1, r1, a, xs, ex, sq, q⟩ => ?_)⟩
  subst ex
  cases r1
  refine wpAny_Slice (thn (po_none.run pins s1 σ H1 (fun o G => o = none ∧ G = H1) I1 ⟨rfl, rfl⟩) ?_)
  rintro low s2 ⟨_, G2, I2, plow, rfl, e2⟩
  subst e2
  refine thn (po_none.run pins s2 σ G2 (fun o G => o = none ∧ G = G2) I2 ⟨rfl, rfl⟩) ?_
  rintro top s3 ⟨_, G3, I3, ptop, rfl, e3⟩
  subst e3
  refine thn ((po_some (pe_un un_neg pe_int)).run pins s3 σ G3 (fun o G => o = some (-1) ∧ G = G3) I3 ⟨1, rfl, -1, rfl, rfl, rfl⟩) ?_
  rintro step s4 ⟨o, G4, I4, pstep, rfl, e4⟩
  subst e4
  have I5 := I4.kept (h' := s4.heap.push { cls := .type "slice", data := .fields #[low, top, step] }) (t' := s4.toks) fun b ob g => Heap.get?_push_of_some _ g
  obtain ⟨us, rv, isT, small⟩ := I5.tuple sq
  have len : us.length = xs.length := rv.length.symm
  refine tail_any (ops := [.ref a, .ref s4.heap.objs.size]) isT.typeIs PyProof.Rows.slot_tuple_getitem.lookup ?_ (by with_unfolding_all rfl)
  refine back_tup isT (Heap.IsSliceOf.new _ low top step) plow ptop pstep ?_ (by omega)
  exact ⟨.ref _, _, I5.laid (t' := s4.toks) (o := .tup xs.reverse) (fun b ob g => Heap.get?_push_of_some _ g) (Nat.le_refl _) ⟨by rw [List.length_reverse]; exact small, _, rv.reverse, IsTup.new _ _⟩, rfl, q _ (I5.hok.fresh (Nat.le_refl _))⟩
end
/-! ### small data -/
structure Oq (d : PyData) (dp wt : Nat) : Prop where
  sh : PyData.showable d = true
  ls : PyData.leavesShort 40 d = true
  dp : PyData.depth d ≤ dp
  wt : PyData.weight d ≤ wt
theorem Oq.mono {d : PyData} {dp wt dp' wt' : Nat} (h : Oq d dp wt) (a : dp ≤ dp') (b : wt ≤ wt') : Oq d dp' wt' := ⟨h.sh, h.ls, Nat.le_trans h.dp a, Nat.le_trans h.wt b⟩
theorem Oq.all {dp wt : Nat} : ∀ {ds : List PyData}, (∀ d ∈ ds, Oq d dp wt) → PyData.showableAll ds = true ∧ PyData.leavesShortAll 40 ds = true ∧ PyData.depthAll ds ≤ dp ∧ PyData.weightAll ds ≤ (wt + 1) * ds.length
  | [], _ => ⟨by simp [PyData.showableAll], by simp [PyData.leavesShortAll], by simp [PyData.depthAll], by simp [PyData.weightAll]⟩
  | d :: ds, h => by
    obtain ⟨i1, i3, i4, i5⟩ := Oq.all (ds := ds) fun x hx => h x (List.mem_cons_of_mem _ hx)
    obtain ⟨j1, j3, j4, j5⟩ := h d List.mem_cons_self
    refine ⟨?_, ?_, ?_, ?_⟩ <;> simp only [PyData.showableAll, PyData.leavesShortAll, PyData.depthAll, PyData.weightAll, i1, i3, j1, j3]
    · rfl
    · rfl
    · omega
    · rw [List.length_cons, Nat.mul_succ]; omega
theorem Oq.tup {ds : List PyData} {dp wt n : Nat} (h : ∀ d ∈ ds, Oq d dp wt) (l : ds.length ≤ n) : Oq (.tuple ds) (dp + 1) ((wt + 1) * n) := by
  obtain ⟨i1, i3, i4, i5⟩ := Oq.all h
  have m : (wt + 1) * ds.length ≤ (wt + 1) * n := Nat.mul_le_mul_left _ l
  refine ⟨?_, ?_, ?_, ?_⟩ <;> simp only [PyData.showable, PyData.leavesShort, PyData.depth, PyData.weight, i1, i3]
  · omega
  · omega
theorem Oq.lst {ds : List PyData} {dp wt n : Nat} (h : ∀ d ∈ ds, Oq d dp wt) (l : ds.length ≤ n) : Oq (.list ds) (dp + 1) ((wt + 1) * n) := by
  obtain ⟨i1, i3, i4, i5⟩ := Oq.all h
  have m : (wt + 1) * ds.length ≤ (wt + 1) * n := Nat.mul_le_mul_left _ l
  refine ⟨?_, ?_, ?_, ?_⟩ <;> simp only [PyData.showable, PyData.leavesShort, PyData.depth, PyData.weight, i1, i3]
  · omega
  · omega
theorem Oq.dic {d : PyData} {dp wt : Nat} (h : Oq d dp wt) : Oq (.dict [(.str "a", d)]) (dp + 1) (wt + 3) := by
  obtain ⟨i1, i3, i4, i5⟩ := h
  have s1 : PyData.leavesShort 40 (.str "a") = true := by decide +kernel
  have s2 : PyData.weight (.str "a") = 1 := by decide +kernel
  refine ⟨?_, ?_, ?_, ?_⟩ <;> simp only [PyData.showable, PyData.showableKv, PyData.leavesShort, PyData.leavesShortKv, PyData.depth, PyData.depthKv, PyData.weight, PyData.weightKv, i1, i3]
  · rfl
  · decide +kernel
  · omega
  · have : (Str.ofString "a").cps.size = 1 := by decide +kernel
    omega
theorem Oq.dic0 : Oq (.dict []) 1 0 := ⟨by decide +kernel, by decide +kernel, by decide +kernel, by decide +kernel⟩
def okL (d : PyData) : Bool := PyData.showable d && PyData.leavesShort 40 d && decide (PyData.depth d ≤ 0) && decide (PyData.weight d ≤ 101)
theorem okL.oq {d : PyData} (h : okL d = true) : Oq d 0 101 := by
  unfold okL at h
  simp only [Bool.and_eq_true, decide_eq_true_eq] at h
  exact ⟨h.1.1.1, h.1.1.2, h.1.2, h.2⟩
theorem okL_upto : ((List.range 64).all fun n => okL (.int (n : Int))) = true := by decide +kernel
theorem okL_nat {n : Nat} (h : n < 64) : okL (.int (n : Int)) = true := List.all_eq_true.mp okL_upto n (List.mem_range.mpr h)
theorem oq_int {v : Int} (h0 : 0 ≤ v) (h1 : v < 64) : Oq (.int v) 0 101 := by
  have e := okL_nat (n := v.toNat) (by omega)
  rw [Int.toNat_of_nonneg h0] at e
  exact okL.oq e
theorem oq_less : Oq (.int (-1)) 0 101 := okL.oq (by decide +kernel)
theorem oq_great : Oq (.int ((10 : Int) ^ (30 : Int).toNat)) 0 101 := okL.oq (by decide +kernel)
theorem oq_bl (b : Bool) : Oq (.bool b) 0 101 := okL.oq (by cases b <;> decide +kernel)
theorem oq_non : Oq .none 0 101 := okL.oq (by decide +kernel)
theorem oq_str0 : Oq (.str "0") 0 101 := okL.oq (by decide +kernel)
theorem oq_void : Oq (.str "") 0 101 := okL.oq (by decide +kernel)
theorem oq_row : Oq (.str "row") 0 101 := okL.oq (by decide +kernel)
/-- a tuple of data -/
def TupD (E : Addr → Prop) (H : Hp) (a : Addr) (ds : List PyData) : Prop := ∃ xs, H a = some (.tup xs) ∧ ¬ E a ∧ DqAll E H xs ds
theorem TupD.fr {E : Addr → Prop} {H H' : Hp} {a : Addr} {ds : List PyData} (h : TupD E H a ds) (f : FrX E H H') : TupD E H' a ds := by
  obtain ⟨xs, e, n, t⟩ := h
  exact ⟨xs, f _ _ n e, n, t.fr f⟩
theorem TupD.dq {E : Addr → Prop} {H : Hp} {a : Addr} {ds : List PyData} (h : TupD E H a ds) : Dq E H (.ref a) (.tuple ds) := by
  obtain ⟨xs, e, n, t⟩ := h
  exact .tup e n t
section
variable {K : PySem.W.Frag} {E : Addr → Prop} {G : Hp} {Q : VK} {n : Nat}
theorem cat_ok {a b : Addr} {ds es : List PyData} (out : ∀ c, G c = none → ¬ E c) (ha : TupD E G a ds) (hb : TupD E G b es) (few : ds.length + es.length ≤ 1000) (q : ∀ c G', Same G G' → TupD E G' c (ds ++ es) → Q (.ref c) G') : rCatA K (.ref a) (.ref b) G Q := by
  obtain ⟨xs, ea, na, ta⟩ := id ha
  obtain ⟨ys, eb, nb, tb⟩ := id hb
  have lx := ta.len
  have ly := tb.len
  refine ⟨a, b, xs, ys, rfl, rfl, .inl (.inl ea), .inl (.inl eb), Nat.le_trans (show xs.length + ys.length ≤ 1000 by omega) (by decide), fun z => ?_, fun _ z => ?_, fun _ _ c nc => ?_⟩
  · subst z
    cases ta
    exact q b G (Same.refl _) hb
  · subst z
    cases tb
    rw [List.append_nil] at q
    exact q a G (Same.refl _) ha
  · have s := same_upd (o := .tup (xs ++ ys)) nc
    exact q c _ s ⟨_, upd_same, out c nc, (ta.app tb).fr (FrX.same s)⟩
theorem cut_sub {α : Type} (xs : List α) (i j : Nat) : ((xs.drop i).take j).Sublist xs := (List.take_sublist _ _).trans (List.drop_sublist _ _)
theorem sl_ok {a : Addr} {ds : List PyData} {lo hi : Option Int} (out : ∀ c, G c = none → ¬ E c) (ha : TupD E G a ds) (q : ∀ c G' es, Same G G' → TupD E G' c es → es.Sublist ds → Q (.ref c) G') : rSlA K (.ref a) lo hi G Q := by
  obtain ⟨xs, ea, na, ta⟩ := id ha
  refine ⟨a, xs, rfl, .inl (.inl ea), fun _ => q a G ds (Same.refl _) ha (List.Sublist.refl _), fun _ c nc => ?_⟩
  have s := same_upd (o := .tup (cutV xs lo hi)) nc
  refine q c _ _ s ⟨_, upd_same, out c nc, ?_⟩ (cut_sub ds (sIx xs.length 0 lo) (sIx xs.length xs.length hi - sIx xs.length 0 lo))
  exact ((ta.drop _).take _).fr (FrX.same s)
theorem back_ok {te : TE} {σ : L2.St} {a : Addr} {ds : List PyData} (out : ∀ c, G c = none → ¬ E c) (ha : TupD E G a ds) (hte : ∀ R : VK, R (.ref a) G → te σ G R) (q : ∀ c G', Same G G' → TupD E G' c ds.reverse → Q (.ref c) G') : tBackT K te σ G Q := by
  obtain ⟨xs, ea, na, ta⟩ := id ha
  refine hte _ ⟨a, xs, rfl, .inl (.inl ea), fun c nc => ?_⟩
  have s := same_upd (o := .tup xs.reverse) nc
  exact q c _ s ⟨_, upd_same, out c nc, ta.rev.fr (FrX.same s)⟩
end
theorem both_of {c : Bool} {ta tb : TE} {σ : L2.St} {H : Hp} {K1 : VK} (C : V → Hp → Prop) (hk : ∀ x H', C x H' → K1 x H') (ha : (∀ x H', C x H' → K1 x H') → c = true → ta σ H K1) (hb : (∀ x H', C x H' → K1 x H') → ¬ c = true → tb σ H K1) : if c = true then ta σ H K1 else tb σ H K1 := by
  by_cases e : c = true
  · rw [if_pos e]; exact ha hk e
  · rw [if_neg e]; exact hb hk e
mutual
/-- another place where nothing stands -/
theorem Dq.more {E : Addr → Prop} {H : Hp} {l : Addr} (nl : H l = none) : ∀ (d : PyData) {v : V}, Dq E H v d → Dq (fun a => E a ∨ a = l) H v d
  | .none, _, h => by cases h; exact .non
  | .bool b, _, h => by cases h; exact .bl b
  | .int i, _, h => by cases h; exact .int i
  | .str x, _, h => by cases h; exact .str x
  | .list ds, _, h => by
    cases h with
    | lst e n y t => exact .lst e (fun z => z.elim n (ne_of_none e nl)) y (DqAll.more nl ds t)
  | .tuple ds, _, h => by
    cases h with
    | tup e n t => exact .tup e (fun z => z.elim n (ne_of_none e nl)) (DqAll.more nl ds t)
  | .dict [], _, h => by
    cases h with
    | dic e n t => cases t; exact .dic (kvs := []) e (fun z => z.elim n (ne_of_none e nl)) .nil
  | .dict [(.str k, d)], _, h => by
    cases h with
    | dic e n t =>
      cases t with
      | one h => exact .dic (kvs := [(k, _)]) e (fun z => z.elim n (ne_of_none e nl)) (.one (Dq.more nl d h))
  | .dict ((.none, _) :: _), _, h => by cases h with | dic e n t => cases t
  | .dict ((.bool _, _) :: _), _, h => by cases h with | dic e n t => cases t
  | .dict ((.int _, _) :: _), _, h => by cases h with | dic e n t => cases t
  | .dict ((.list _, _) :: _), _, h => by cases h with | dic e n t => cases t
  | .dict ((.tuple _, _) :: _), _, h => by cases h with | dic e n t => cases t
  | .dict ((.dict _, _) :: _), _, h => by cases h with | dic e n t => cases t
  | .dict ((.str _, _) :: _ :: _), _, h => by cases h with | dic e n t => cases t
theorem DqAll.more {E : Addr → Prop} {H : Hp} {l : Addr} (nl : H l = none) : ∀ (ds : List PyData) {vs : List V}, DqAll E H vs ds → DqAll (fun a => E a ∨ a = l) H vs ds
  | [], _, h => by cases h; exact .nil
  | d :: ds, _, h => by
    cases h with
    | cons x t => exact .cons (Dq.more nl d x) (DqAll.more nl ds t)
end
mutual
theorem Dq.less {E F : Addr → Prop} {H : Hp} (f : ∀ a, F a → E a) : ∀ (d : PyData) {v : V}, Dq E H v d → Dq F H v d
  | .none, _, h => by cases h; exact .non
  | .bool b, _, h => by cases h; exact .bl b
  | .int i, _, h => by cases h; exact .int i
  | .str x, _, h => by cases h; exact .str x
  | .list ds, _, h => by
    cases h with
    | lst e n y t => exact .lst e (fun z => n (f _ z)) y (DqAll.less f ds t)
  | .tuple ds, _, h => by
    cases h with
    | tup e n t => exact .tup e (fun z => n (f _ z)) (DqAll.less f ds t)
  | .dict [], _, h => by
    cases h with
    | dic e n t => cases t; exact .dic (kvs := []) e (fun z => n (f _ z)) .nil
  | .dict [(.str k, d)], _, h => by
    cases h with
    | dic e n t =>
      cases t with
      | one h => exact .dic (kvs := [(k, _)]) e (fun z => n (f _ z)) (.one (Dq.less f d h))
  | .dict ((.none, _) :: _), _, h => by cases h with | dic e n t => cases t
  | .dict ((.bool _, _) :: _), _, h => by cases h with | dic e n t => cases t
  | .dict ((.int _, _) :: _), _, h => by cases h with | dic e n t => cases t
  | .dict ((.list _, _) :: _), _, h => by cases h with | dic e n t => cases t
  | .dict ((.tuple _, _) :: _), _, h => by cases h with | dic e n t => cases t
  | .dict ((.dict _, _) :: _), _, h => by cases h with | dic e n t => cases t
  | .dict ((.str _, _) :: _ :: _), _, h => by cases h with | dic e n t => cases t
theorem DqAll.less {E F : Addr → Prop} {H : Hp} (f : ∀ a, F a → E a) : ∀ (ds : List PyData) {vs : List V}, DqAll E H vs ds → DqAll F H vs ds
  | [], _, h => by cases h; exact .nil
  | d :: ds, _, h => by
    cases h with
    | cons x t => exact .cons (Dq.less f d x) (DqAll.less f ds t)
end
/-- things of some size -/
def Thgs (E : Addr → Prop) (H : Hp) (vs : List V) (dp wt : Nat) : Prop := ∀ v ∈ vs, ∃ d, Dq E H v d ∧ Oq d dp wt
theorem Thgs.fr {E : Addr → Prop} {H H' : Hp} {vs : List V} {dp wt : Nat} (h : Thgs E H vs dp wt) (f : FrX E H H') : Thgs E H' vs dp wt := fun v hv => by
  obtain ⟨d, a, b⟩ := h v hv
  exact ⟨d, a.fr f, b⟩
theorem Thgs.nil {E : Addr → Prop} {H : Hp} {dp wt : Nat} : Thgs E H [] dp wt := fun v hv => nomatch hv
theorem Thgs.cons {E : Addr → Prop} {H : Hp} {v : V} {vs : List V} {d : PyData} {dp wt : Nat} (h : Dq E H v d) (o : Oq d dp wt) (t : Thgs E H vs dp wt) : Thgs E H (v :: vs) dp wt := fun x hx => by
  rcases List.mem_cons.mp hx with rfl | hx
  · exact ⟨d, h, o⟩
  · exact t x hx
/-- each of these places holds a list -/
def LstN (N : Addr → Prop) (G : Hp) : Prop := ∀ x, N x → ∃ zs, G x = some (.lst zs)
theorem LstN.same {N : Addr → Prop} {G G' : Hp} (h : LstN N G) (s : Same G G') : LstN N G' := fun x nx => by
  obtain ⟨zs, e⟩ := h x nx
  exact ⟨zs, s _ _ e⟩
theorem LstN.fr {N : Addr → Prop} {G G' : Hp} {p : Addr} {n : Nat} (h : LstN N G) (f : Fr p G G') (hp : PotAt G' p n) : LstN N G' := fun x nx => by
  by_cases e : x = p
  · obtain ⟨g, c, u, z, _⟩ := hp
    exact ⟨_, e ▸ z⟩
  · obtain ⟨zs, z⟩ := h x nx
    exact ⟨zs, f _ _ e z⟩
theorem LstN.out {N : Addr → Prop} {G : Hp} (h : LstN N G) (c : Addr) (nc : G c = none) : ¬ N c := fun z => by
  obtain ⟨zs, e⟩ := h c z
  rw [nc] at e
  cases e
theorem LstN.tup {N : Addr → Prop} {G : Hp} {c : Addr} {us : List V} (h : LstN N G) (nc : G c = some (.tup us)) : ¬ N c := fun z => by
  obtain ⟨zs, e⟩ := h c z
  rw [nc] at e
  cases e
theorem tcons_run {te : TE} {ta : TA} {σ : L2.St} {H : Hp} {R : List V → Hp → Prop} (h : te σ H fun v H1 => ta σ H1 fun vs H2 => R (v :: vs) H2) : tCons te ta σ H R := h
theorem LstN.more {N : Addr → Prop} {G : Hp} {l : Addr} {zs : List V} (h : LstN N G) (e : G l = some (.lst zs)) : LstN (fun a => N a ∨ a = l) G := fun x hx => hx.elim (h x) fun z => ⟨zs, z ▸ e⟩
theorem lstOne {p : Addr} {G : Hp} {n : Nat} (h : PotAt G p n) : LstN (· = p) G := fun x hx => by
  obtain ⟨g, c, u, z, _⟩ := h
  exact ⟨_, hx ▸ z⟩
theorem Oq.shows {E : Addr → Prop} {G : Hp} {v : V} {d : PyData} {dp wt : Nat} (h : Dq E G v d) (o : Oq d dp wt) (hd : dp ≤ 60) (hw : wt ≤ 110000) : Shows G v d.shown := by
  have z := PyData.shown_le 40 (by decide) d o.ls
  have s : 5000000 ≤ sizeLine := by decide
  have w := o.wt
  exact ⟨E, d, h, o.sh, Nat.le_trans o.dp hd, by omega, rfl⟩
section
variable {K : PySem.W.Frag}
/-- all(..) over a tuple of data -/
theorem all_tupD {te : TE} {σ : L2.St} {G : Hp} {Q : VK} {i s : Nat} {a : Addr} {xs : List V} {ds : List PyData} {E : Addr → Prop} {f : PyData → Bool} (ha : σ[i]? = some (some (.ref a))) (hx : G a = some (.tup xs)) (da : DqAll E G xs ds) (hw : ∀ v, wipe ((wipe σ [s]).set s (some v)) [s] = wipe σ [s])
    (hte : ∀ (v : V) (d : PyData) (G1 : Hp) (Q' : VK), Dq E G1 v d → Same G G1 → (∀ (B : Bool) G', B = f d → Same G1 G' → Q' (.bl B) G') → te ((wipe σ [s]).set s (some v)) G1 Q') (few : xs.length < sizeLine)
    (q : ∀ (B : Bool) G', B = ds.all f → Same G G' → Q (.bl B) G') : tCB (rAll K) (tCons (tLc (iTup K (tVar i)) (gName s) tYes te [s]) tNil) σ G Q := by
  refine ⟨_, ha, a, rfl, ⟨_, .inl (.inl hx)⟩, fun D nD => ?_⟩
  refine lc_tup (xs := xs) (fun m G' => Same G G' ∧ G' D = some (.lst (((ds.take m).map f).map V.bl))) ⟨same_upd nD, upd_same⟩ (fun m G' _ h => .inl (.inl (h.1 _ _ hx))) ?_ ?_
  · rintro m v G' hv ⟨sm, hD⟩
    refine ⟨hw _, ?_⟩
    simp only [tYes, ↓reduceIte]
    have hm : m < xs.length := (List.getElem?_eq_some_iff.mp hv).1
    have hl := da.len
    obtain ⟨d, hd, dv⟩ : ∃ d, ds[m]? = some d ∧ Dq E G v d := by
      have at_ : ∀ {us : List V} {es : List PyData} {m : Nat} {v : V}, DqAll E G us es → us[m]? = some v → ∃ d, es[m]? = some d ∧ Dq E G v d := by
        intro us
        induction us with
        | nil => intro es m v h e; cases e
        | cons u us ih =>
          intro es m v h e
          cases h with
          | cons x y =>
            cases m with
            | zero => cases e; exact ⟨_, rfl, x⟩
            | succ m =>
              obtain ⟨d', h1, h2⟩ := ih y (show us[m]? = some v from e)
              exact ⟨d', h1, h2⟩
      exact at_ da hv
    refine hte v d G' _ (dv.fr (FrX.same sm)) sm fun B G2 e s2 => ⟨_, s2 _ _ hD, ?_, ?_, ?_⟩
    · rw [List.length_map, List.length_map, List.length_take]
      omega
    · intro b' o e'
      rw [upd_ne (ne_of_none e' nD)]
      exact s2 _ _ (sm _ _ e')
    · rw [upd_same, List.take_add_one, hd, List.map_append, List.map_append, e]
      rfl
  · rintro G' ⟨sm, hD⟩
    have hl := da.len
    rw [hl, List.take_length] at hD
    refine ⟨D, ds.map f, rfl, .inl (.inl hD), ?_⟩
    refine q _ _ ?_ sm
    rw [List.all_map]
    rfl
end
end C2

namespace C2
set_option Elab.async false
set_option linter.all false
set_option maxRecDepth 100000
set_option maxHeartbeats 1000000
open PySem PySem.Spec PyProof.Rows L2
def sgD (hi : Int) : PyData → Bool
  | .none => true
  | .int i => decide (0 ≤ i ∧ i ≤ hi)
  | _ => false
def thrD (hi len : Int) : PyData → Bool
  | .tuple ds => decide ((ds.length : Int) = len) && ds.all (sgD hi)
  | _ => false
def blkD (hi many len : Int) : PyData → Bool
  | .tuple ds => decide ((ds.length : Int) = many) && ds.all (thrD hi len)
  | _ => false
def holD (q a b : Int) : PyData → Bool
  | .tuple [x, y] => blkD (q - 1) b (a + 1) x && blkD (q - 1) a (b + 1) y
  | _ => false
theorem thrD_no {hi len : Int} {d : PyData} (h : ∀ ds, d ≠ .tuple ds) : thrD hi len d = false := by
  cases d with
  | tuple ds => exact absurd rfl (h ds)
  | _ => rfl
theorem blkD_no {hi many len : Int} {d : PyData} (h : ∀ ds, d ≠ .tuple ds) : blkD hi many len d = false := by
  cases d with
  | tuple ds => exact absurd rfl (h ds)
  | _ => rfl
theorem holD_no {q a b : Int} {d : PyData} (h : ∀ x y, d ≠ .tuple [x, y]) : holD q a b d = false := by
  cases d with
  | tuple ds =>
    match ds with
    | [] => rfl
    | [x] => rfl
    | [x, y] => exact absurd rfl (h x y)
    | x :: y :: z :: r => rfl
  | _ => rfl
section
variable {P : Program} {w : World} {K : PySem.W.Frag} {mg : Str → Option Value} {base : Heap}
abbrev NTh : List Str := ["q", "thing", "length", "part"]
theorem scThr : FnScope NTh ["q", "thing", "length"] (defScope sHThread) := ⟨rfl, rfl, rfl, by decide +kernel, rfl, by decide +kernel, by decide +kernel⟩
def teTh : TE := tOrV (tOp (fun x y H Q => y = .non ∧ Q (.bl (decide (x = .non))) H) (tVar 3) (tC .non)) (tCall spBetween [] E0 (tCons (tVar 3) (tCons (tC (V.int 0)) (tCons (tOp (rI0 fun i j => V.int (i - j)) (tVar 0) (tC (V.int 1))) tNil))))
def spThr : Sp := fun vs H Q _ => ∃ (N : Addr → Prop) (v : V) (d : PyData) (q len : Int), vs = [.int q, v, .int len] ∧ Dq N H v d ∧ len < 1000 ∧ ∀ (B : Bool) H', B = thrD (q - 1) len d → Same H H' → Q (.bl B) H'
theorem ok_thr {f fW fB fU : Addr} {fd fdW fdB fdU : FuncData} {k : Nat} (F : Fun K "is_holed_thread" "is_holed_thread" sHThread f fd) (FW : Fun K "is_whole" "is_whole" sPWhole fW fdW) (FB : Fun K "is_between" "is_between" sBetween fB fdB) (FU : Fun K "is_tuple_of" "is_tuple_of" sTupOf fU fdU)
    (bW : Binds K fdW ["thing"] []) (bB : Binds K fdB ["thing", "least", "most"] []) (bU : Binds K fdU ["thing", "many"] []) (gW : mg "is_whole" = some (.ref fW)) (gB : mg "is_between" = some (.ref fB)) (gU : mg "is_tuple_of" = some (.ref fU))
    (mi : mg "isinstance" = none) (mint : mg "int" = none) (mbool : mg "bool" = none) (mtup : mg "tuple" = none) (ml : mg "len" = none) (mall : mg "all" = none) : FnOk P w K mg base CX0 (k + 3) f fd ["q", "thing", "length"] spThr := by
  have GB : FnOk P w K mg base CX0 (k + 2) fB fdB ["thing", "least", "most"] spBetween := ok_between FB FW bW gW mi mint mbool
  have GU : FnOk P w K mg base CX0 1 fU fdU ["thing", "many"] spTupOf := ok_tupOf FU mi mtup ml
  refine F.ok scThr (fun vs H Q E h => ?_) (fun cdv A outer s H vs Q E hr h => ?_)
  · obtain ⟨N, v, d, q, len, rfl, _⟩ := h
    rfl
  · obtain ⟨N, v, d, q, len, rfl, t, few, k⟩ := h
    have nd := scThr.nd
    refine ⟨_, pss_one (ps_ret (pe_and (pe_call GU (hr.mono (by omega)) (by rfl) gU FU.kp bU .nil pass0 (pa_cons (pv 1) (pa_cons (pv 2) pa_nil))) (pe_one (pe_callB (cr_all rfl) (by rfl) mall (by decide +kernel) (pa_cons (pe_lc (own := [("part", 3)]) (g := gName 3) (tt := tYes) (te := teTh) rfl nd (pi_tup (pv 1)) (blkOk_by (own := [("part", 3)]) (N := NTh) (sc := defScope sHThread) (by decide +kernel)) (fun _ _ _ _ _ => pg_name (i := 3) nd rfl (.inl rfl)) (fun _ _ _ _ _ => pts_nil) (fun _ _ _ _ _ => (pe_or (pe_cmpR op_isN (pv 3) pe_non (nomark _)) (pe_one (pe_call GB hr (by rfl) gB FB.kp bB .nil pass0 (pa_cons (pv 3) (pa_cons pe_int (pa_cons (pe_op op_sub (pv 0) pe_int) pa_nil)))))))) pa_nil))))), ?_⟩
    obtain ⟨o, th, yes, no⟩ := t.thg
    refine ⟨v, rfl, .int len, rfl, v, o, len, rfl, th, _, rfl, ite2 (fun e => ?_) (fun e => ?_)⟩
    · cases o with
      | none => cases e
      | some xs =>
        obtain ⟨ds, rfl, da⟩ := yes xs rfl
        obtain ⟨a, rfl, ea⟩ := th.some_tup
        have el : ((xs.length : Nat) : Int) = len := of_decide_eq_true e
        show tCB (rAll K) (tCons (tLc (iTup K (tVar 1)) (gName 3) tYes teTh [3]) tNil) [some (.int q), some (.ref a), some (.int len), none] _ _
        refine all_tupD (f := sgD (q - 1)) rfl ea da (fun v => rfl) (fun y dy G1 Q' hy s1 kk => ?_) (Nat.lt_of_lt_of_le (show xs.length < 1000 by omega) (by decide)) fun B G' eB sm => k B G' ?_ sm
        · refine ⟨y, rfl, rfl, _, rfl, ite2 (fun c => ?_) (fun c => ?_)⟩
          · have : y = .non := of_decide_eq_true c
            subst this
            cases hy
            exact kk _ _ rfl (Same.refl _)
          · obtain ⟨oy, ty, _⟩ := hy.thg
            refine ⟨y, rfl, .int q, rfl, _, _, rfl, rfl, y, oy, 0, q - 1, rfl, ty, kk _ _ ?_ (Same.refl _)⟩
            cases hy with
            | non => exact absurd rfl c
            | _ => rfl
        · rw [eB]
          show _ = (decide _ && _)
          rw [← da.len, decide_eq_true el, Bool.true_and]
    · refine k _ _ ?_ (Same.refl _)
      cases o with
      | none => exact (thrD_no (no rfl)).symm
      | some xs =>
        obtain ⟨ds, rfl, da⟩ := yes xs rfl
        have el : ¬ ((xs.length : Nat) : Int) = len := fun z => e (decide_eq_true z)
        show _ = (decide _ && _)
        rw [← da.len, decide_eq_false el, Bool.false_and]
abbrev NBk : List Str := ["q", "thing", "many", "length", "thread"]
theorem scBlk : FnScope NBk ["q", "thing", "many", "length"] (defScope sHBlock) := ⟨rfl, rfl, rfl, by decide +kernel, rfl, by decide +kernel, by decide +kernel⟩
def teBk : TE := tCall spThr [] E0 (tCons (tVar 0) (tCons (tVar 4) (tCons (tVar 3) tNil)))
def spBlk : Sp := fun vs H Q _ => ∃ (N : Addr → Prop) (v : V) (d : PyData) (q many len : Int), vs = [.int q, v, .int many, .int len] ∧ Dq N H v d ∧ len < 1000 ∧ many < 1000 ∧ ∀ (B : Bool) H', B = blkD (q - 1) many len d → Same H H' → Q (.bl B) H'
theorem ok_blk {f fT fW fB fU : Addr} {fd fdT fdW fdB fdU : FuncData} {k : Nat} (F : Fun K "is_holed_block" "is_holed_block" sHBlock f fd) (FT : Fun K "is_holed_thread" "is_holed_thread" sHThread fT fdT) (FW : Fun K "is_whole" "is_whole" sPWhole fW fdW) (FB : Fun K "is_between" "is_between" sBetween fB fdB) (FU : Fun K "is_tuple_of" "is_tuple_of" sTupOf fU fdU)
    (bT : Binds K fdT ["q", "thing", "length"] []) (bW : Binds K fdW ["thing"] []) (bB : Binds K fdB ["thing", "least", "most"] []) (bU : Binds K fdU ["thing", "many"] []) (gT : mg "is_holed_thread" = some (.ref fT)) (gW : mg "is_whole" = some (.ref fW)) (gB : mg "is_between" = some (.ref fB)) (gU : mg "is_tuple_of" = some (.ref fU))
    (mi : mg "isinstance" = none) (mint : mg "int" = none) (mbool : mg "bool" = none) (mtup : mg "tuple" = none) (ml : mg "len" = none) (mall : mg "all" = none) : FnOk P w K mg base CX0 (k + 4) f fd ["q", "thing", "many", "length"] spBlk := by
  have GT : FnOk P w K mg base CX0 (k + 3) fT fdT ["q", "thing", "length"] spThr := ok_thr FT FW FB FU bW bB bU gW gB gU mi mint mbool mtup ml mall
  have GU : FnOk P w K mg base CX0 1 fU fdU ["thing", "many"] spTupOf := ok_tupOf FU mi mtup ml
  refine F.ok scBlk (fun vs H Q E h => ?_) (fun cdv A outer s H vs Q E hr h => ?_)
  · obtain ⟨N, v, d, q, many, len, rfl, _⟩ := h
    rfl
  · obtain ⟨N, v, d, q, many, len, rfl, t, few, few2, k⟩ := h
    have nd := scBlk.nd
    refine ⟨_, pss_one (ps_ret (pe_and (pe_call GU (hr.mono (by omega)) (by rfl) gU FU.kp bU .nil pass0 (pa_cons (pv 1) (pa_cons (pv 2) pa_nil))) (pe_one (pe_callB (cr_all rfl) (by rfl) mall (by decide +kernel) (pa_cons (pe_lc (own := [("thread", 4)]) (g := gName 4) (tt := tYes) (te := teBk) rfl nd (pi_tup (pv 1)) (blkOk_by (own := [("thread", 4)]) (N := NBk) (sc := defScope sHBlock) (by decide +kernel)) (fun _ _ _ _ _ => pg_name (i := 4) nd rfl (.inl rfl)) (fun _ _ _ _ _ => pts_nil) (fun _ _ _ _ _ => (pe_call GT hr (by rfl) gT FT.kp bT .nil pass0 (pa_cons (pv 0) (pa_cons (pv 4) (pa_cons (pv 3) pa_nil)))))) pa_nil))))), ?_⟩
    obtain ⟨o, th, yes, no⟩ := t.thg
    refine ⟨v, rfl, .int many, rfl, v, o, many, rfl, th, _, rfl, ite2 (fun e => ?_) (fun e => ?_)⟩
    · cases o with
      | none => cases e
      | some xs =>
        obtain ⟨ds, rfl, da⟩ := yes xs rfl
        obtain ⟨a, rfl, ea⟩ := th.some_tup
        have el : ((xs.length : Nat) : Int) = many := of_decide_eq_true e
        show tCB (rAll K) (tCons (tLc (iTup K (tVar 1)) (gName 4) tYes teBk [4]) tNil) [some (.int q), some (.ref a), some (.int many), some (.int len), none] _ _
        refine all_tupD (f := thrD (q - 1) len) rfl ea da (fun v => rfl) (fun y dy G1 Q' hy s1 kk => ?_) (Nat.lt_of_lt_of_le (show xs.length < 1000 by omega) (by decide)) fun B G' eB sm => k B G' ?_ sm
        · exact ⟨.int q, rfl, y, rfl, .int len, rfl, N, y, dy, q, len, rfl, hy, few, kk⟩
        · rw [eB]
          show _ = (decide _ && _)
          rw [← da.len, decide_eq_true el, Bool.true_and]
    · refine k _ _ ?_ (Same.refl _)
      cases o with
      | none => exact (blkD_no (no rfl)).symm
      | some xs =>
        obtain ⟨ds, rfl, da⟩ := yes xs rfl
        have el : ¬ ((xs.length : Nat) : Int) = many := fun z => e (decide_eq_true z)
        show _ = (decide _ && _)
        rw [← da.len, decide_eq_false el, Bool.false_and]
abbrev NHo : List Str := ["q", "a", "b", "thing", "rows", "columns"]
theorem scHol : FnScope NHo ["q", "a", "b", "thing"] (defScope sHoled) := ⟨rfl, rfl, rfl, by decide +kernel, rfl, by decide +kernel, by decide +kernel⟩
def spHol : Sp := fun vs H Q _ => ∃ (N : Addr → Prop) (v : V) (d : PyData) (q a b : Int), vs = [.int q, .int a, .int b, v] ∧ Dq N H v d ∧ a < 900 ∧ b < 900 ∧ ∀ (B : Bool) H', B = holD q a b d → Same H H' → Q (.bl B) H'
theorem ok_hol {f fK fT fW fB fU : Addr} {fd fdK fdT fdW fdB fdU : FuncData} {k : Nat} (F : Fun K "is_holed" "is_holed" sHoled f fd) (FK : Fun K "is_holed_block" "is_holed_block" sHBlock fK fdK) (FT : Fun K "is_holed_thread" "is_holed_thread" sHThread fT fdT) (FW : Fun K "is_whole" "is_whole" sPWhole fW fdW) (FB : Fun K "is_between" "is_between" sBetween fB fdB) (FU : Fun K "is_tuple_of" "is_tuple_of" sTupOf fU fdU)
    (bK : Binds K fdK ["q", "thing", "many", "length"] []) (bT : Binds K fdT ["q", "thing", "length"] []) (bW : Binds K fdW ["thing"] []) (bB : Binds K fdB ["thing", "least", "most"] []) (bU : Binds K fdU ["thing", "many"] []) (gK : mg "is_holed_block" = some (.ref fK)) (gT : mg "is_holed_thread" = some (.ref fT)) (gW : mg "is_whole" = some (.ref fW)) (gB : mg "is_between" = some (.ref fB)) (gU : mg "is_tuple_of" = some (.ref fU))
    (mi : mg "isinstance" = none) (mint : mg "int" = none) (mbool : mg "bool" = none) (mtup : mg "tuple" = none) (ml : mg "len" = none) (mall : mg "all" = none) : FnOk P w K mg base CX0 (k + 5) f fd ["q", "a", "b", "thing"] spHol := by
  have GK : FnOk P w K mg base CX0 (k + 4) fK fdK ["q", "thing", "many", "length"] spBlk := ok_blk FK FT FW FB FU bT bW bB bU gT gW gB gU mi mint mbool mtup ml mall
  have GU : FnOk P w K mg base CX0 1 fU fdU ["thing", "many"] spTupOf := ok_tupOf FU mi mtup ml
  refine F.ok scHol (fun vs H Q E h => ?_) (fun cdv A outer s H vs Q E hr h => ?_)
  · obtain ⟨N, v, d, q, a, b, rfl, _⟩ := h
    rfl
  · obtain ⟨N, v, d, q, a, b, rfl, t, fa, fb, k⟩ := h
    have nd := scHol.nd
    refine ⟨_, pss_cons (ps_if (pt_not (pt_val (pe_call GU (hr.mono (by omega)) (by rfl) gU FU.kp bU .nil pass0 (pa_cons (pv 3) (pa_cons pe_int pa_nil))))) (pss_one (ps_ret pe_bl)) pss_nil)
      (pss_cons (ps_asg (pv 3) (pg_tup rfl (pgs_cons (pg_name (i := 4) nd rfl (.inl rfl)) (pgs_cons (pg_name (i := 5) nd rfl (.inl rfl)) pgs_nil))))
      (pss_one (ps_ret (pe_and (pe_call GK hr (by rfl) gK FK.kp bK .nil pass0 (pa_cons (pv 0) (pa_cons (pv 4) (pa_cons (pv 2) (pa_cons (pe_op op_add (pv 1) pe_int) pa_nil))))) (pe_one (pe_call GK hr (by rfl) gK FK.kp bK .nil pass0 (pa_cons (pv 0) (pa_cons (pv 5) (pa_cons (pv 1) (pa_cons (pe_op op_add (pv 2) pe_int) pa_nil)))))))))), ?_⟩
    obtain ⟨o, th, yes, no⟩ := t.thg
    refine ⟨v, rfl, v, o, 2, rfl, th, lenIs o 2, rfl, ite2 (fun e => ?_) (fun e => ?_)⟩
    · refine k _ _ ?_ (Same.refl _)
      refine (holD_no fun x y z => ?_).symm
      cases o with
      | none => exact no rfl _ z
      | some xs =>
        obtain ⟨ds, rfl, da⟩ := yes xs rfl
        cases z
        have l := da.len
        have : lenIs (some xs) 2 = true := by
          show decide _ = true
          exact decide_eq_true (by rw [l]; rfl)
        rw [this] at e
        cases e
    · have e' : lenIs o 2 = true := by simpa using e
      cases o with
      | none => cases e'
      | some xs =>
        obtain ⟨ds, rfl, da⟩ := yes xs rfl
        obtain ⟨c, rfl, ec⟩ := th.some_tup
        have el : ((xs.length : Nat) : Int) = 2 := of_decide_eq_true e'
        have l := da.len
        match xs, ds, da, el, l with
        | [u, v], [x, y], .cons hx (.cons hy .nil), _, _ =>
          refine ⟨.ref c, rfl, c, _, rfl, .inl (.inl ec), rfl, _, _, rfl, _, _, rfl, rfl, ?_⟩
          refine ⟨.int q, rfl, u, rfl, .int b, rfl, .int a, rfl, _, _, rfl, rfl, N, u, x, q, b, a + 1, rfl, hx, by omega, by omega, fun B1 H1 e1 s1 => ?_⟩
          refine ⟨B1, rfl, ite2 (fun z => ?_) (fun z => ?_)⟩
          · refine ⟨.int q, rfl, v, rfl, .int a, rfl, .int b, rfl, _, _, rfl, rfl, N, v, y, q, a, b + 1, rfl, hy.fr (FrX.same s1), by omega, by omega, fun B2 H2 e2 s2 => k B2 H2 ?_ (s1.trans s2)⟩
            show _ = (_ && _)
            rw [← e1, z, Bool.true_and, e2]
          · refine k false H1 ?_ s1
            show _ = (_ && _)
            rw [← e1, Bool.eq_false_iff.mpr z, Bool.false_and]
end
end C2

namespace C2
set_option Elab.async false
set_option linter.all false
set_option maxRecDepth 100000
set_option maxHeartbeats 1000000
open PySem PySem.Spec PyProof.Rows L2
theorem DqAll.at_ {E : Addr → Prop} {G : Hp} : ∀ {us : List V} {es : List PyData} {m : Nat} {v : V}, DqAll E G us es → us[m]? = some v → ∃ d, es[m]? = some d ∧ Dq E G v d := by
  intro us
  induction us with
  | nil => intro es m v h e; cases e
  | cons u us ih =>
    intro es m v h e
    cases h with
    | cons x y =>
      cases m with
      | zero => cases e; exact ⟨_, rfl, x⟩
      | succ m =>
        obtain ⟨d', h1, h2⟩ := ih y (show us[m]? = some v from e)
        exact ⟨d', h1, h2⟩
theorem all_bad {f : PyData → Bool} {ds : List PyData} {m : Nat} {d : PyData} (h : ds[m]? = some d) (e : f d = false) : ds.all f = false := by
  cases z : ds.all f with
  | false => rfl
  | true => rw [List.all_eq_true.mp z d (List.mem_of_getElem? h)] at e; cases e
theorem all_next {f : PyData → Bool} {ds : List PyData} {m : Nat} {d : PyData} (t : (ds.take m).all f = true) (h : ds[m]? = some d) (e : f d = true) : (ds.take (m + 1)).all f = true := by
  rw [List.take_add_one, h, List.all_append, t]
  simp [e]
section
variable {P : Program} {w : World} {K : PySem.W.Frag} {mg : Str → Option Value} {base : Heap}
abbrev NSo : List Str := ["_law_base", "_law_many", "_law_long", "_law_item", "_law_one", "_law_sign", "_law_is_number"]
theorem scIsSo : FnScope NSo ["_law_base", "_law_many", "_law_long", "_law_item"] (defScope sIsSo) := ⟨rfl, rfl, rfl, by decide +kernel, rfl, by decide +kernel, by decide +kernel⟩
def spIsSo : Sp := fun vs H Q _ => ∃ (N : Addr → Prop) (v : V) (d : PyData) (q many len : Int), vs = [.int q, .int many, .int len, v] ∧ Dq N H v d ∧ ∀ (B : Bool) H', B = blkD (q - 1) many len d → Same H H' → Q (.bl B) H'
theorem ok_isso {f : Addr} {fd : FuncData} {k : Nat} (F : Fun K "_law_is_so" "_law_is_so" sIsSo f fd) (mi : mg "isinstance" = none) (mint : mg "int" = none) (mbool : mg "bool" = none) (mtup : mg "tuple" = none) (ml : mg "len" = none) : FnOk P w K mg base CX0 (k + 1) f fd ["_law_base", "_law_many", "_law_long", "_law_item"] spIsSo := by
  refine F.ok scIsSo (fun vs H Q E h => ?_) (fun cdv A outer s H vs Q E hr h => ?_)
  · obtain ⟨N, v, d, q, many, len, rfl, _⟩ := h
    rfl
  · obtain ⟨N, v, d, q, many, len, rfl, t, k⟩ := h
    have nd := scIsSo.nd
    refine ⟨_, pss_cons (ps_if (PW.pt (pw_or (pt_not (pt_val (pe_callB call_isi (by rfl) mi (by decide +kernel) (pa_cons (pv 3) (pa_cons (pe_bltn (v := .ty "tuple") (by rfl) mtup (by decide +kernel) rfl) pa_nil))))) (pw_or1 (pt_cmpR op_ne (pe_callB call_len_seq (by rfl) ml PySem.boot_len (pa_cons (pv 3) pa_nil)) (pv 1) (nomark _))))) (pss_one (ps_ret pe_bl)) pss_nil)
      (pss_cons (ps_for PassesOwn.never rfl (pi_tup (pv 3)) (pg_name (i := 4) nd rfl (.inl rfl)) (pss_cons (ps_if (PW.pt (pw_or (pt_not (pt_val (pe_callB call_isi (by rfl) mi (by decide +kernel) (pa_cons (pv 4) (pa_cons (pe_bltn (v := .ty "tuple") (by rfl) mtup (by decide +kernel) rfl) pa_nil))))) (pw_or1 (pt_cmpR op_ne (pe_callB call_len_seq (by rfl) ml PySem.boot_len (pa_cons (pv 4) pa_nil)) (pv 2) (nomark _))))) (pss_one (ps_ret pe_bl)) pss_nil)
      (pss_one (ps_for PassesOwn.never rfl (pi_tup (pv 4)) (pg_name (i := 5) nd rfl (.inl rfl)) (pss_cons (ps_set (i := 6) nd rfl (.inl rfl) (pe_and (pe_callB call_isi (by rfl) mi (by decide +kernel) (pa_cons (pv 5) (pa_cons (pe_bltn (v := .ty "int") (by rfl) mint (by decide +kernel) rfl) pa_nil))) (pe_one (pe_not (pe_callB call_isi (by rfl) mi (by decide +kernel) (pa_cons (pv 5) (pa_cons (pe_bltn (v := .ty "bool") (by rfl) mbool (by decide +kernel) rfl) pa_nil)))))))
      (pss_one (ps_if (PW.pt (pw_and (pt_cmpR op_notN (pv 5) pe_non (nomark _)) (pw_and1 (PW.pt (pw_or (pt_not (pt_val (pv 6))) (pw_or (pt_cmpR op_lt (pv 5) pe_int (nomark _)) (pw_or1 (pt_cmpR op_ge (pv 5) (pv 0) (nomark _))))))))) (pss_one (ps_ret pe_bl)) pss_nil)))))))
      (pss_one (ps_ret pe_bl))), ?_⟩
    obtain ⟨o, th, yes, no⟩ := t.thg
    obtain ⟨n, ty, _, _, k3, _⟩ := th.kit (K := K)
    refine ⟨v, rfl, v, .ty "tuple", _, _, _, rfl, .ty "tuple", ty, kit_ty k3, o.isSome, rfl, ite2 (fun e => ?_) (fun e => ?_)⟩
    · refine iteT (k _ _ ?_ (Same.refl _))
      cases o with
      | none => exact (blkD_no (no rfl)).symm
      | some xs => cases e
    cases o with
    | none => exact absurd rfl e
    | some xs =>
    obtain ⟨ds, rfl, da⟩ := yes xs rfl
    obtain ⟨a, rfl, ea⟩ := th.some_tup
    refine ⟨.ref a, rfl, a, xs, rfl, .inr (.inl (.inl ea)), .int many, rfl, rfl, _, rfl, ite2 (fun z => ?_) (fun z => ?_)⟩
    · refine k _ _ ?_ (Same.refl _)
      have ne : ¬ ((xs.length : Nat) : Int) = many := fun y => by
        rw [y] at z
        simp at z
      show _ = (decide _ && _)
      rw [← da.len, decide_eq_false ne, Bool.false_and]
    have el : ((xs.length : Nat) : Int) = many := by
      by_cases y : ((xs.length : Nat) : Int) = many
      · exact y
      · exact absurd (by simp [y]) z
    have bE : blkD (q - 1) many len (.tuple ds) = ds.all (thrD (q - 1) len) := by
      show (decide _ && _) = _
      rw [← da.len, decide_eq_true el, Bool.true_and]
    rw [bE] at k
    refine ⟨.ref a, rfl, a, rfl, ⟨_, .inl (.inl ea)⟩, ?_⟩
    refine for_tup (xs := xs) (fun m σ G => Same H G ∧ (ds.take m).all (thrD (q - 1) len) = true ∧ ∃ y4 y5 y6, σ = [some (.int q), some (.int many), some (.int len), some (.ref a), y4, y5, y6]) ⟨Same.refl _, rfl, _, _, _, rfl⟩ (fun m σ G _ h => .inl (.inl (h.1 _ _ ea))) ?_ ?_
    · rintro m x σ G hx ⟨sm, ok, y4, y5, y6, rfl⟩
      obtain ⟨d1, hd1, q1⟩ := da.at_ hx
      have q1' := q1.fr (FrX.same sm)
      obtain ⟨o1, th1, yes1, no1⟩ := q1'.thg
      obtain ⟨n1, ty1, _, _, k31, _⟩ := th1.kit (K := K)
      refine ⟨x, rfl, x, .ty "tuple", _, _, _, rfl, .ty "tuple", ty1, kit_ty k31, o1.isSome, rfl, ite2 (fun e1 => ?_) (fun e1 => ?_)⟩
      · refine iteT (k _ _ ?_ sm)
        cases o1 with
        | none => exact (all_bad hd1 (thrD_no (no1 rfl))).symm
        | some xs => cases e1
      cases o1 with
      | none => exact absurd rfl e1
      | some us =>
      obtain ⟨es, rfl, db⟩ := yes1 us rfl
      obtain ⟨c, rfl, ec⟩ := th1.some_tup
      refine ⟨.ref c, rfl, c, us, rfl, .inr (.inl (.inl ec)), .int len, rfl, rfl, _, rfl, ite2 (fun z1 => ?_) (fun z1 => ?_)⟩
      · refine k _ _ ?_ sm
        have ne : ¬ ((us.length : Nat) : Int) = len := fun y => by
          rw [y] at z1
          simp at z1
        refine (all_bad hd1 ?_).symm
        show (decide _ && _) = false
        rw [← db.len, decide_eq_false ne, Bool.false_and]
      have el1 : ((us.length : Nat) : Int) = len := by
        by_cases y : ((us.length : Nat) : Int) = len
        · exact y
        · exact absurd (by simp [y]) z1
      have tE : thrD (q - 1) len (.tuple es) = es.all (sgD (q - 1)) := by
        show (decide _ && _) = _
        rw [← db.len, decide_eq_true el1, Bool.true_and]
      refine ⟨.ref c, rfl, c, rfl, ⟨_, .inl (.inl ec)⟩, ?_⟩
      refine for_tup (xs := us) (fun r σ G' => Same G G' ∧ (es.take r).all (sgD (q - 1)) = true ∧ ∃ y5 y6, σ = [some (.int q), some (.int many), some (.int len), some (.ref a), some (.ref c), y5, y6]) ⟨Same.refl _, rfl, _, _, rfl⟩ (fun r σ G' _ h => .inl (.inl (h.1 _ _ ec))) ?_ ?_
      · rintro r y σ G' hy ⟨sm1, ok1, y5, y6, rfl⟩
        obtain ⟨d2, hd2, q2⟩ := db.at_ hy
        have q2' := q2.fr (FrX.same sm1)
        obtain ⟨o2, th2, _⟩ := q2'.thg
        obtain ⟨n2, ty2, k1, k2, _, _⟩ := th2.kit (K := K)
        have bad : sgD (q - 1) d2 = false → Q (.bl false) G' := fun z => k _ _ (all_bad hd1 (by rw [tE]; exact all_bad hd2 z)).symm (sm.trans sm1)
        have go : sgD (q - 1) d2 = true → ∀ B : Bool, Same G G' ∧ (es.take (r + 1)).all (sgD (q - 1)) = true ∧ ∃ y5 y6, [some (V.int q), some (V.int many), some (V.int len), some (V.ref a), some (V.ref c), some y, some (V.bl B)] = [some (V.int q), some (V.int many), some (V.int len), some (V.ref a), some (V.ref c), y5, y6] := fun z B => ⟨sm1, all_next ok1 hd2 z, _, _, rfl⟩
        have rest : ∀ B : Bool, B = isIn y → tIfS (tAnd (tTest (tOp (fun x y H Q => y = .non ∧ Q (.bl (!decide (x = .non))) H) (tVar 5) (tC .non))) (tOr (tNot (tB (tVar 6))) (tOr (tTest (tOp (rI0 fun i j => V.bl (decide (i < j))) (tVar 5) (tC (V.int 0)))) (tTest (tOp (rI0 fun i j => V.bl (decide (j ≤ i))) (tVar 5) (tVar 0)))))) (tRet (tC (V.bl false))) tNext { nx := fun σ G' => Same G G' ∧ (es.take (r + 1)).all (sgD (q - 1)) = true ∧ ∃ y5 y6, σ = [some (.int q), some (.int many), some (.int len), some (.ref a), some (.ref c), y5, y6], rt := Q } [some (V.int q), some (V.int many), some (V.int len), some (V.ref a), some (V.ref c), some y, some (V.bl B)] G' := by
          intro B hB
          refine ⟨y, rfl, rfl, _, rfl, ite2 (fun c1 => ?_) (fun c1 => ?_)⟩
          · refine ⟨.bl B, rfl, B, rfl, ite2 (fun c2 => ?_) (fun c2 => ?_)⟩
            · refine iteT (bad ?_)
              have hb : isIn y = false := by rw [← hB]; simpa using c2
              cases q2 with
              | non => simp at c1
              | int i => cases hb
              | _ => rfl
            · have hb : isIn y = true := by rw [← hB]; simpa using c2
              obtain ⟨i, rfl⟩ := isIn_int hb
              cases q2
              refine ⟨.int i, rfl, i, 0, rfl, rfl, _, rfl, ite2 (fun c3 => ?_) (fun c3 => ?_)⟩
              · refine iteT (bad ?_)
                have : i < 0 := of_decide_eq_true c3
                show decide (_ ∧ _) = false
                exact decide_eq_false (by omega)
              · have h3 : ¬ i < 0 := fun y => c3 (decide_eq_true y)
                refine ⟨.int i, rfl, .int q, rfl, i, q, rfl, rfl, _, rfl, ite2 (fun c4 => ?_) (fun c4 => ?_)⟩
                · refine bad ?_
                  have : q ≤ i := of_decide_eq_true c4
                  show decide (_ ∧ _) = false
                  exact decide_eq_false (by omega)
                · have h4 : ¬ q ≤ i := fun y => c4 (decide_eq_true y)
                  refine go ?_ B
                  show decide (_ ∧ _) = true
                  exact decide_eq_true (by omega)
          · refine iteF (go ?_ B)
            have : y = .non := by simpa using c1
            subst this
            cases q2
            rfl
        refine ⟨y, rfl, y, .ty "int", _, _, _, rfl, .ty "int", ty2, kit_ty k1, _, rfl, ite2 (fun e2 => ?_) (fun e2 => ?_)⟩
        · refine ⟨y, rfl, y, .ty "bool", _, _, _, rfl, .ty "bool", ty2, kit_ty k2, _, rfl, ?_⟩
          exact rest _ (isIB_not e2)
        · exact rest _ (isIB_no e2).symm
      · rintro σ G' ⟨sm1, ok1, y5, y6, rfl⟩
        rw [db.len, List.take_length] at ok1
        exact ⟨sm.trans sm1, all_next ok hd1 (by rw [tE]; exact ok1), _, _, _, rfl⟩
    · rintro σ G ⟨sm, ok, y4, y5, y6, rfl⟩
      rw [da.len, List.take_length] at ok
      exact k _ _ ok.symm sm
theorem scDue : FnScope ["_law_base", "_law_wide", "_law_tall", "_law_item"] ["_law_base", "_law_wide", "_law_tall", "_law_item"] (defScope sDue) := ⟨rfl, rfl, rfl, by decide +kernel, rfl, by decide +kernel, by decide +kernel⟩
theorem ok_due {f fS : Addr} {fd fdS : FuncData} {k : Nat} (F : Fun K "_law_due" "_law_due" sDue f fd) (FS : Fun K "_law_is_so" "_law_is_so" sIsSo fS fdS) (bS : Binds K fdS ["_law_base", "_law_many", "_law_long", "_law_item"] []) (gS : mg "_law_is_so" = some (.ref fS)) (mi : mg "isinstance" = none) (mint : mg "int" = none) (mbool : mg "bool" = none) (mtup : mg "tuple" = none) (ml : mg "len" = none) : FnOk P w K mg base CX0 (k + 2) f fd ["_law_base", "_law_wide", "_law_tall", "_law_item"] spHol := by
  have GS : FnOk P w K mg base CX0 (k + 1) fS fdS ["_law_base", "_law_many", "_law_long", "_law_item"] spIsSo := ok_isso FS mi mint mbool mtup ml
  refine F.ok scDue (fun vs H Q E h => ?_) (fun cdv A outer s H vs Q E hr h => ?_)
  · obtain ⟨N, v, d, q, a, b, rfl, _⟩ := h
    rfl
  · obtain ⟨N, v, d, q, a, b, rfl, t, fa, fb, k⟩ := h
    have nd := scDue.nd
    refine ⟨_, pss_cons (ps_if (PW.pt (pw_or (pt_not (pt_val (pe_callB call_isi (by rfl) mi (by decide +kernel) (pa_cons (pv 3) (pa_cons (pe_bltn (v := .ty "tuple") (by rfl) mtup (by decide +kernel) rfl) pa_nil))))) (pw_or1 (pt_cmpR op_ne (pe_callB call_len_seq (by rfl) ml PySem.boot_len (pa_cons (pv 3) pa_nil)) pe_int (nomark _))))) (pss_one (ps_ret pe_bl)) pss_nil)
      (pss_one (ps_ret (pe_and (pe_call GS hr (by rfl) gS FS.kp bS .nil pass0 (pa_cons (pv 0) (pa_cons (pv 2) (pa_cons (pe_op op_add (pv 1) pe_int) (pa_cons (pe_ix ix_tup (pv 3) pe_int (fun _ _ => rfl)) pa_nil))))) (pe_one (pe_call GS hr (by rfl) gS FS.kp bS .nil pass0 (pa_cons (pv 0) (pa_cons (pv 1) (pa_cons (pe_op op_add (pv 2) pe_int) (pa_cons (pe_ix ix_tup (pv 3) pe_int (fun _ _ => rfl)) pa_nil))))))))), ?_⟩
    obtain ⟨o, th, yes, no⟩ := t.thg
    obtain ⟨n, ty, _, _, k3, _⟩ := th.kit (K := K)
    refine ⟨v, rfl, v, .ty "tuple", _, _, _, rfl, .ty "tuple", ty, kit_ty k3, o.isSome, rfl, ite2 (fun e => ?_) (fun e => ?_)⟩
    · refine iteT (k _ _ ?_ (Same.refl _))
      cases o with
      | none => exact (holD_no fun x y z => no rfl _ z).symm
      | some xs => cases e
    cases o with
    | none => exact absurd rfl e
    | some xs =>
    obtain ⟨ds, rfl, da⟩ := yes xs rfl
    obtain ⟨c, rfl, ec⟩ := th.some_tup
    have l := da.len
    refine ⟨.ref c, rfl, c, xs, rfl, .inr (.inl (.inl ec)), rfl, _, rfl, ite2 (fun z => ?_) (fun z => ?_)⟩
    · refine k _ _ ?_ (Same.refl _)
      refine (holD_no fun x y w => ?_).symm
      cases w
      have : xs.length = 2 := l
      rw [this] at z
      cases z
    have el : xs.length = 2 := by
      by_cases y : xs.length = 2
      · exact y
      · refine absurd ?_ z
        have : ¬ ((xs.length : Nat) : Int) = 2 := by omega
        simp [this]
    match xs, ds, da, el, l with
    | [u, v], [x, y], .cons hx (.cons hy .nil), _, _ =>
      refine ⟨.int q, rfl, .int b, rfl, .int a, rfl, _, _, rfl, rfl, .ref c, rfl, c, _, 0, u, rfl, rfl, .inl (.inl ec), rfl, N, u, x, q, b, a + 1, rfl, hx, fun B1 H1 e1 s1 => ?_⟩
      refine ⟨B1, rfl, ite2 (fun z => ?_) (fun z => ?_)⟩
      · refine ⟨.int q, rfl, .int a, rfl, .int b, rfl, _, _, rfl, rfl, .ref c, rfl, c, _, 1, v, rfl, rfl, .inl (.inl (s1 _ _ ec)), rfl, N, v, y, q, a, b + 1, rfl, hy.fr (FrX.same s1), fun B2 H2 e2 s2 => k B2 H2 ?_ (s1.trans s2)⟩
        show _ = (_ && _)
        rw [← e1, z, Bool.true_and, e2]
      · refine k false H1 ?_ s1
        show _ = (_ && _)
        rw [← e1, Bool.eq_false_iff.mpr z, Bool.false_and]
end
end C2

namespace C2
set_option Elab.async false
set_option linter.all false
set_option maxRecDepth 100000
set_option maxHeartbeats 1000000
open PySem PySem.Spec PyProof.Rows L2 HT
def Upto (m : Nat) (vs : List Int) : Prop := ∀ v ∈ vs, 0 ≤ v ∧ v ≤ (m : Int)
theorem Upto.snoc {m : Nat} {vs : List Int} {v : Int} (h : Upto m vs) (h0 : 0 ≤ v) (h1 : v ≤ (m : Int)) : Upto m (vs ++ [v]) := fun x hx => by
  rcases List.mem_append.mp hx with hx | hx
  · exact h x hx
  · rw [List.mem_singleton.mp hx]
    exact ⟨h0, h1⟩
theorem lc_draw {te : TE} {ta : TA} {σ : L2.St} {H : Hp} {Q : VK} {p : Addr} {sl n len m : Nat} (hs : ∀ v, wipe ((wipe σ [sl]).set sl (some v)) [sl] = wipe σ [sl]) (hlen : len ≤ 40) (hta : ∀ R : List V → Hp → Prop, R [.int (len : Int)] H → ta σ H R) (hP : PotAt H p n)
    (hte : ∀ (j : Nat) (G : Hp) (R : VK), j < len → PotAt G p (n + 3 * j) → (∀ (d : Int) G', Fr p G G' → PotAt G' p (n + 3 * (j + 1)) → 0 ≤ d → d ≤ (m : Int) → R (.int d) G') → te ((wipe σ [sl]).set sl (some (.int (j : Int)))) G R)
    (k : ∀ D vs G, Fr p H G → PotAt G p (n + 3 * len) → H D = none → D ≠ p → G D = some (.lst (vs.map V.int)) → vs.length = len → Upto m vs → Q (.ref D) G) : tLc (iRng1 ta) (gName sl) tYes te [sl] σ H Q := by
  refine hta _ ⟨(len : Int), rfl, by omega, by omega, fun D nD => ?_⟩
  have nDp : D ≠ p := hP.ne nD
  refine lc_range (lo := 0) (n := len) (fun j G => Fr p H G ∧ PotAt G p (n + 3 * j) ∧ ∃ vs : List Int, G D = some (.lst (vs.map V.int)) ∧ vs.length = j ∧ Upto m vs) ⟨Fr.new nD, hP.new nD, [], upd_same, rfl, fun v hv => by cases hv⟩ ?_ ?_
  · rintro j G hj ⟨fr, pt, vs, hD, hl, up⟩
    rw [Int.zero_add]
    refine ⟨hs _, ?_⟩
    simp only [tYes, ↓reduceIte]
    refine hte j G _ hj pt fun d G' f P d0 d1 => ⟨_, f _ _ nDp hD, ?_, ?_, P.at nDp, vs ++ [d], ?_, ?_, up.snoc d0 d1⟩
    · rw [List.length_map, hl]
      exact Nat.lt_of_lt_of_le (show j < 1000 by omega) (by decide)
    · intro b o nb e
      rw [upd_ne (ne_of_none e nD)]
      exact f _ _ nb (fr _ _ nb e)
    · rw [upd_same, List.map_append]
      rfl
    · rw [List.length_append, hl]
      rfl
  · rintro G ⟨fr, pt, vs, hD, hl, up⟩
    exact k D vs G fr pt nD nDp hD hl up
def rTupOf (K : PySem.W.Frag) : List V → Hp → VK → Prop := fun xs H Q => ∃ p ys, xs = [.ref p] ∧ ((SqL K H p ys ∧ ∀ l, H l = none → Q (.ref l) (upd H l (.tup ys))) ∨ (SqT K H p ys ∧ Q (.ref p) H))
section
variable {P : Program} {w : World} {K : PySem.W.Frag} {mg : Str → Option Value} {base : Heap}
abbrev NLe : List Str := ["_law_pot_here", "_law_base", "_law_many", "_law_turn"]
theorem scLetters : FnScope NLe ["_law_pot_here", "_law_base", "_law_many"] (defScope sLetters) := ⟨rfl, rfl, rfl, by decide +kernel, rfl, by decide +kernel, by decide +kernel⟩
def tLe : TE := tCall spTake [] E0 (tCons (tVar 0) (tCons (tVar 1) tNil))
def spLetters : Sp := fun vs H Q _ => ∃ (p : Addr) (b m n : Nat), vs = [.ref p, .int (b : Int), .int (m : Int)] ∧ 2 ≤ b ∧ b ≤ 7 ∧ m ≤ 6 ∧ PotAt H p n ∧ n < 800000 ∧ ∀ (t : Addr) (us : List Int) H', Fr p H H' → PotAt H' p (n + 3 * m) → H' t = some (.tup (us.map V.int)) → us.length = m → Upto 6 us → Q (.ref t) H'
theorem ok_letters {f fT : Addr} {fd fdT : FuncData} {k : Nat} (F : Fun K "_law_letters" "_law_letters" sLetters f fd) (FT : Fun K "_law_take" "_law_take" sTake fT fdT) (bT : Binds K fdT ["_law_pot_here", "_law_many"] []) (gT : mg "_law_take" = some (.ref fT)) (mr : mg "range" = none) (mtup : mg "tuple" = none) : FnOk P w K mg base CX0 (k + 2) f fd ["_law_pot_here", "_law_base", "_law_many"] spLetters := by
  have GT : FnOk P w K mg base CX0 (k + 1) fT fdT ["_law_pot_here", "_law_many"] spTake := ok_take FT
  refine F.ok scLetters (fun vs H Q E h => ?_) (fun cdv A outer s H vs Q E hr h => ?_)
  · obtain ⟨p, b, m, n, rfl, _⟩ := h
    rfl
  · obtain ⟨p, b, m, n, rfl, b2, b7, m6, hP, hn, q⟩ := h
    have nd := scLetters.nd
    refine ⟨_, pss_one (ps_ret (pe_callTy call_tuple_of (by rfl) mtup (by decide +kernel) (pa_cons (pe_lc (own := [("_law_turn", 3)]) (g := gName 3) (tt := tYes) (te := tLe) rfl nd (pi_range1 (by rfl) mr (pa_cons (pv 2) pa_nil)) (blkOk_by (own := [("_law_turn", 3)]) (N := NLe) (sc := defScope sLetters) (by decide +kernel)) (fun _ _ _ _ _ => pg_name (i := 3) nd rfl (.inl rfl)) (fun _ _ _ _ _ => pts_nil) (fun _ _ _ _ _ => (pe_call GT (hr.mono (by omega)) (by rfl) gT FT.kp bT .nil pass0 (pa_cons (pv 0) (pa_cons (pv 1) pa_nil))))) pa_nil))), ?_⟩
    show tRet (tCB (rTupOf K) (tCons (tLc (iRng1 (tCons (tVar 2) tNil)) (gName 3) tYes tLe [3]) tNil)) _ [some (.ref p), some (.int (b : Int)), some (.int (m : Int)), none] _
    refine tcb_run (lc_draw (te := tLe) (sl := 3) (len := m) (m := 6) (n := n) (p := p) (fun v => rfl) (by omega) (fun R h => ⟨.int (m : Int), rfl, h⟩) hP (fun j G R hj pt kk => ⟨.ref p, rfl, .int (b : Int), rfl, p, (b : Int), n + 3 * j, rfl, pt, by omega, by omega, by omega, fun d G' f P d0 d1 => kk d G' f (P.mono (by omega)) d0 (by omega)⟩) fun D us G2 f2 P2 nD nDp hD l1 u1 => ?_)
    refine ⟨D, _, rfl, .inl ⟨.inl (.inl hD), fun t nt => ?_⟩⟩
    have s1 := same_upd (o := .tup (us.map V.int)) nt
    exact q t us _ (f2.trans (Fr.same s1)) (P2.same s1) upd_same l1 u1
theorem sl_okL {K : PySem.W.Frag} {E : Addr → Prop} {G : Hp} {Q : VK} {a : Addr} {ds : List PyData} {lo hi : Option Int} (out : ∀ c, G c = none → ¬ E c) (ha : TupD E G a ds) (q : ∀ c G' es, Same G G' → TupD E G' c es → es.Sublist ds → es.length ≤ HT.sIx ds.length ds.length hi - HT.sIx ds.length 0 lo → Q (.ref c) G') : rSlA K (.ref a) lo hi G Q := by
  obtain ⟨xs, ea, na, ta⟩ := id ha
  have l := ta.len
  refine ⟨a, xs, rfl, .inl (.inl ea), fun z => q a G ds (Same.refl _) ha (List.Sublist.refl _) (by rw [l] at z; omega), fun _ c nc => ?_⟩
  have s := same_upd (o := .tup (cutV xs lo hi)) nc
  refine q c _ ((ds.drop (HT.sIx ds.length 0 lo)).take (HT.sIx ds.length ds.length hi - HT.sIx ds.length 0 lo)) s ⟨_, upd_same, out c nc, ?_⟩ (cut_sub ds _ _) ?_
  · have z := ((ta.drop (HT.sIx ds.length 0 lo)).take (HT.sIx ds.length ds.length hi - HT.sIx ds.length 0 lo)).fr (FrX.same s)
    rw [← l] at z ⊢
    exact z
  · rw [List.length_take]
    exact Nat.min_le_left _ _
theorem same_disp {G : Hp} {b : Addr} {o o' : HO} (k : G b = none) : Same G (upd (upd G b o) b o') := fun c x e => by
  rw [upd_ne (ne_of_none e k), upd_ne (ne_of_none e k)]
  exact e
def oddW (i : Nat) : Nat := if i ≤ 4 then 253 * 2 ^ i else 4048 + 3 * (i - 4)
theorem oddW_lo : ∀ {i : Nat}, i < 4 → 2 * oddW i ≤ oddW (i + 1)
  | 0, _ => by decide
  | 1, _ => by decide
  | 2, _ => by decide
  | 3, _ => by decide
  | i + 4, h => by omega
theorem oddW_hi {i : Nat} (h : 4 ≤ i) : oddW i + 3 ≤ oddW (i + 1) := by
  by_cases e : i = 4
  · subst e; decide
  · unfold oddW
    rw [if_neg (by omega), if_neg (by omega)]
    omega
theorem oddW_le {i : Nat} (h : i < 14) : oddW i ≤ 4078 := by
  have all : ((List.range 14).all fun i => decide (oddW i ≤ 4078)) = true := by decide
  exact of_decide_eq_true (List.all_eq_true.mp all i (List.mem_range.mpr h))
theorem scOdd : FnScope ["_law_pot_here", "_law_odd_here", "_law_turn"] ["_law_pot_here"] (defScope sOdd) := ⟨rfl, rfl, rfl, by decide +kernel, rfl, by decide +kernel, by decide +kernel⟩
def spOdd : Sp := fun vs H Q _ => ∃ (p : Addr) (n : Nat) (N : Addr → Prop), vs = [.ref p] ∧ PotAt H p n ∧ n < 900000 ∧ N p ∧ LstN N H ∧ ∀ (v : V) (d : PyData) H', Fr p H H' → PotAt H' p (n + 16) → Dq N H' v d → Oq d 20 110000 → Q v H'
theorem ok_odd {f fO fT : Addr} {fd fdO fdT : FuncData} {k : Nat} (F : Fun K "_law_odd" "_law_odd" sOdd f fd) (FO : Fun K "_law_of" "_law_of" sOf fO fdO) (FT : Fun K "_law_take" "_law_take" sTake fT fdT) (bO : Binds K fdO ["_law_pot_here", "_law_some"] []) (bT : Binds K fdT ["_law_pot_here", "_law_many"] [])
    (gO : mg "_law_of" = some (.ref fO)) (gT : mg "_law_take" = some (.ref fT)) (ml : mg "len" = none) (mr : mg "range" = none) (mint : mg "int" = none) : FnOk P w K mg base CX0 (k + 3) f fd ["_law_pot_here"] spOdd := by
  have GT : FnOk P w K mg base CX0 1 fT fdT ["_law_pot_here", "_law_many"] spTake := ok_take FT
  have GO : FnOk P w K mg base CX0 (k + 2) fO fdO ["_law_pot_here", "_law_some"] (spOf K) := ok_of FO FT bT gT ml
  refine F.ok scOdd (fun vs H Q E h => ?_) (fun cdv A outer s H vs Q E hr h => ?_)
  · obtain ⟨p, n, N, rfl, _⟩ := h
    rfl
  · obtain ⟨p, n, N, rfl, hP, hn, np, lN, q⟩ := h
    have nd := scOdd.nd
    refine ⟨_, pss_cons (ps_set (i := 1) nd rfl (.inl rfl) (pe_call GO hr (by rfl) gO FO.kp bO .nil pass0 (pa_cons (pv 0) (pa_cons (pe_lst (pa_cons pe_non (pa_cons pe_bl (pa_cons pe_int (pa_cons pe_str (pa_cons pe_str (pa_cons (pe_tup pa_nil) (pa_cons (pe_lstS pa_nil) (pa_cons pe_dnewK (pa_cons (pe_tup (pa_cons (pe_tup pa_nil) (pa_cons (pe_tup pa_nil) pa_nil))) (pa_cons (pe_tup (pa_cons (pe_lstS pa_nil) (pa_cons (pe_lstS pa_nil) pa_nil))) (pa_cons (pe_tup (pa_cons (pe_tup (pa_cons pe_int pa_nil)) (pa_cons (pe_tup (pa_cons pe_int pa_nil)) pa_nil))) (pa_cons (pe_tup (pa_cons pe_non (pa_cons pe_non pa_nil))) pa_nil))))))))))))) pa_nil))))
      (pss_cons (ps_for PassesOwn.never rfl (pi_range1 (by rfl) mr (pa_cons (pe_call GT (hr.mono (by omega)) (by rfl) gT FT.kp bT .nil pass0 (pa_cons (pv 0) (pa_cons pe_int pa_nil))) pa_nil)) (pg_name (i := 2) nd rfl (.inl rfl)) (pss_one (ps_set (i := 1) nd rfl (.inl rfl) (pe_call GO hr (by rfl) gO FO.kp bO .nil pass0 (pa_cons (pv 0) (pa_cons (pe_lst (pa_cons (pe_tup (pa_cons (pv 1) pa_nil)) (pa_cons (pe_lstS (pa_cons (pv 1) pa_nil)) (pa_cons (pe_disp (pps_cons pe_str (pv 1) pps_nil) (by rfl) (by rfl) (fun z => by cases z) (by decide)) (pa_cons (pe_slice sl_tupA (pe_tup (pa_cons (pv 1) (pa_cons (pv 1) pa_nil))) po_none (po_some (pe_op op_add pe_int (pe_callTy call_int1 (by rfl) mint (by decide +kernel) (pa_cons (pe_cmpR op_lt (pv 2) pe_int (nomark _)) pa_nil))))) pa_nil))))) pa_nil))))))
      (pss_one (ps_ret (pv 1)))), ?_⟩
    refine ⟨.ref p, rfl, by decide, fun a1 m1 => ⟨by decide, fun a2 m2 y2 => fun a3 m3 => ⟨by decide, fun a4 m4 => ⟨by decide, fun a5 m5 => ⟨by show 2 ≤ sizeLine; decide, fun a6 m6 => ⟨by decide, fun a7 m7 y7 => ⟨by decide, fun a8 m8 y8 => ⟨by show 2 ≤ sizeLine; decide, fun a9 m9 => ⟨by show 1 ≤ sizeLine; decide, fun a10 m10 => ⟨by show 1 ≤ sizeLine; decide, fun a11 m11 => ⟨by show 2 ≤ sizeLine; decide, fun a12 m12 => ⟨by show 2 ≤ sizeLine; decide, fun a13 m13 => ⟨by show 12 ≤ sizeLine; decide, fun l1 n1 => ?_⟩⟩⟩⟩⟩⟩⟩⟩⟩⟩⟩⟩⟩
    have s1 := same_upd (o := .tup []) m1
    have s2 := same_upd (o := .lst []) m2
    have s3 := same_upd (o := .dK []) m3
    have s4 := same_upd (o := .tup []) m4
    have s5 := same_upd (o := .tup []) m5
    have s6 := same_upd (o := .tup [.ref a4, .ref a5]) m6
    have s7 := same_upd (o := .lst []) m7
    have s8 := same_upd (o := .lst []) m8
    have s9 := same_upd (o := .tup [.ref a7, .ref a8]) m9
    have s10 := same_upd (o := .tup [.int 0]) m10
    have s11 := same_upd (o := .tup [.int 0]) m11
    have s12 := same_upd (o := .tup [.ref a10, .ref a11]) m12
    have s13 := same_upd (o := .tup [.non, .non]) m13
    have s14 := same_upd (o := .lst [.non, .bl true, .int 0, .str "", .str "row", .ref a1, .ref a2, .ref a3, .ref a6, .ref a9, .ref a12, .ref a13]) n1
    have L1 := lN.same s1
    have L2 := L1.same s2
    have L3 := L2.same s3
    have L4 := L3.same s4
    have L5 := L4.same s5
    have L6 := L5.same s6
    have L7 := L6.same s7
    have L8 := L7.same s8
    have L9 := L8.same s9
    have L10 := L9.same s10
    have L11 := L10.same s11
    have L12 := L11.same s12
    have L13 := L12.same s13
    have r13 := s14
    have r12 := s13.trans r13
    have r11 := s12.trans r12
    have r10 := s11.trans r11
    have r9 := s10.trans r10
    have r8 := s9.trans r9
    have r7 := s8.trans r8
    have r6 := s7.trans r7
    have r5 := s6.trans r6
    have r4 := s5.trans r5
    have r3 := s4.trans r4
    have r2 := s3.trans r3
    have r1 := s2.trans r2
    have r0 := s1.trans r1
    have d1 := Dq.fr (E := N) (FrX.same r1) _ (.tup upd_same (lN.out a1 m1) .nil)
    have d2 := Dq.fr (E := N) (FrX.same r2) _ (.lst upd_same (L1.out a2 m2) y2 .nil)
    have d3 := Dq.fr (E := N) (FrX.same r3) _ (.dic (kvs := []) upd_same (L2.out a3 m3) .nil)
    have d6 := Dq.fr (E := N) (FrX.same r6) _ (.tup upd_same (L5.out a6 m6) (.cons (.tup (s6 _ _ (s5 _ _ upd_same)) (L3.out a4 m4) .nil) (.cons (.tup (s6 _ _ upd_same) (L4.out a5 m5) .nil) .nil)))
    have d9 := Dq.fr (E := N) (FrX.same r9) _ (.tup upd_same (L8.out a9 m9) (.cons (.lst (s9 _ _ (s8 _ _ upd_same)) (L6.out a7 m7) y7 .nil) (.cons (.lst (s9 _ _ upd_same) (L7.out a8 m8) y8 .nil) .nil)))
    have d12 := Dq.fr (E := N) (FrX.same r12) _ (.tup upd_same (L11.out a12 m12) (.cons (.tup (s12 _ _ (s11 _ _ upd_same)) (L9.out a10 m10) (.cons (.int 0) .nil)) (.cons (.tup (s12 _ _ upd_same) (L10.out a11 m11) (.cons (.int 0) .nil)) .nil)))
    have d13 := Dq.fr (E := N) (FrX.same r13) _ (.tup upd_same (L12.out a13 m13) (.cons .non (.cons .non .nil)))
    have e0 : Oq (.tuple []) 1 0 := Oq.tup (ds := []) (dp := 0) (wt := 101) (n := 0) (fun d hd => nomatch hd) (by decide)
    have e1 : Oq (.list []) 1 0 := Oq.lst (ds := []) (dp := 0) (wt := 101) (n := 0) (fun d hd => nomatch hd) (by decide)
    have pair : ∀ {x y : PyData} {dp wt : Nat}, Oq x dp wt → Oq y dp wt → Oq (.tuple [x, y]) (dp + 1) ((wt + 1) * 2) := fun hx hy => Oq.tup (fun d hd => by
      rcases List.mem_cons.mp hd with rfl | hd
      · exact hx
      · rw [List.mem_singleton.mp hd]; exact hy) (by show 2 ≤ 2; decide)
    have z1 : Oq (.tuple [.int 0]) 1 102 := Oq.tup (dp := 0) (wt := 101) (n := 1) (fun d hd => by rw [List.mem_singleton.mp hd]; exact oq_int (by decide) (by decide)) (by decide)
    have up : ∀ {d : PyData} {dp wt : Nat}, Oq d dp wt → dp ≤ 2 → wt ≤ 250 → Oq d 2 250 := fun h a b => h.mono a b
    have start : Thgs N _ [.non, .bl true, .int 0, .str "", .str "row", .ref a1, .ref a2, .ref a3, .ref a6, .ref a9, .ref a12, .ref a13] 2 250 := .cons .non (up oq_non (by decide) (by decide)) (.cons (.bl _) (up (oq_bl _) (by decide) (by decide)) (.cons (.int _) (up (oq_int (v := 0) (by decide) (by decide)) (by decide) (by decide)) (.cons (.str _) (up oq_void (by decide) (by decide)) (.cons (.str _) (up oq_row (by decide) (by decide))
      (.cons d1 (up e0 (by decide) (by decide)) (.cons d2 (up e1 (by decide) (by decide)) (.cons d3 (up Oq.dic0 (by decide) (by decide)) (.cons d6 (up (pair e0 e0) (by decide) (by decide)) (.cons d9 (up (pair e1 e1) (by decide) (by decide)) (.cons d12 (up (pair z1 z1) (by decide) (by decide)) (.cons d13 (up (pair oq_non oq_non) (by decide) (by decide)) .nil)))))))))))
    refine ⟨p, l1, _, n, rfl, hP.same r0, by omega, (hP.same (s1.trans (s2.trans (s3.trans (s4.trans (s5.trans (s6.trans (s7.trans (s8.trans (s9.trans (s10.trans (s11.trans (s12.trans s13))))))))))))).ne n1, .inl (.inl upd_same), by show 0 < 12; decide, by show 12 < 1000000; decide, fun v0 H1 f1 P1 mem => ?_⟩
    obtain ⟨dd, qd, od⟩ := start v0 mem
    have q1 := qd.fr (FrX.of f1 np)
    have F1 : Fr p H H1 := (Fr.same r0).trans f1
    have LN1 := lN.fr F1 P1
    refine ⟨.ref p, rfl, p, 14, n + 1, rfl, P1, by omega, by decide, by decide, fun many H2 f2 P2 g0 g1 => ?_⟩
    obtain ⟨mn, rfl⟩ : ∃ mn : Nat, many = (mn : Int) := ⟨many.toNat, by omega⟩
    refine ⟨(mn : Int), rfl, by omega, by omega, ?_⟩
    refine for_range (lo := 0) (n := mn) (fun i σ G => Fr p H G ∧ PotAt G p (n + 2 + i) ∧ (∃ v d wt y, σ = [some (.ref p), some v, y] ∧ Dq N G v d ∧ Oq d (2 + i) wt ∧ wt + 3 ≤ oddW i)) ⟨F1.trans f2, P2, v0, dd, 250, _, rfl, q1.fr (FrX.of f2 np), od, by decide⟩ ?_ ?_
    · rintro i σ G hi ⟨fr, pt, v, d, wt, y, rfl, qv, ov, hw⟩
      have lG := lN.fr fr pt
      have i13 : i < 14 := by omega
      refine ⟨.ref p, rfl, v, rfl, by show 1 ≤ sizeLine; decide, fun b1 k1 => ⟨v, rfl, by show 1 ≤ sizeLine; decide, fun b2 k2 z2 => fun b3 k3 => ⟨v, rfl, upd_same, [(Sum.inr "a", v)], rfl, by show 1 ≤ 15; decide, v, rfl, v, rfl, by show 2 ≤ sizeLine; decide, fun b4 k4 => ?_⟩⟩⟩
      have t1 := same_upd (o := .tup [v]) k1
      have t2 := same_upd (o := .lst [v]) k2
      have t3 := same_disp (o := .dK []) (o' := .dK (mergeK [] [(Sum.inr "a", v)])) k3
      have t4 := same_upd (o := .tup [v, v]) k4
      have w1 := lG.same t1
      have w2 := w1.same t2
      have w3 := w2.same t3
      have w4 := w3.same t4
      have g4 := t1.trans (t2.trans (t3.trans t4))
      have qv4 := qv.fr (FrX.same g4)
      refine ⟨.int (0 + (i : Int)), rfl, 0 + (i : Int), 4, rfl, rfl, .inr ⟨_, rfl, 1, _, rfl, rfl, _, rfl, ?_⟩⟩
      refine sl_okL (E := N) (ds := [d, d]) (fun c nc => w4.out c nc) ⟨_, upd_same, w3.out b4 k4, .cons qv4 (.cons qv4 .nil)⟩ fun c5 G5 es t5 hT sub les => ⟨by show 4 ≤ sizeLine; decide, fun b6 k6 => ?_⟩
      have t6 := same_upd (o := .lst [.ref b1, .ref b2, .ref b3, .ref c5]) k6
      have g6 := g4.trans (t5.trans t6)
      have qv6 := qv.fr (FrX.same g6)
      have ov' : Oq d (2 + i) (oddW i - 3) := ov.mono (Nat.le_refl _) (by omega)
      have W3 : 3 ≤ oddW i := by omega
      have les' : es.length ≤ if i < 4 then 2 else 1 := by
        by_cases h4 : i < 4
        · rw [if_pos h4]
          exact sub.length_le
        · rw [if_neg h4]
          have : decide (0 + (i : Int) < 4) = false := decide_eq_false (by omega)
          rw [this] at les
          exact les
      have oE : ∀ e ∈ es, Oq e (2 + i) (oddW i - 3) := fun e he => by
        have := sub.subset he
        simp at this
        rw [this]
        exact ov'
      have big : oddW i + 3 ≤ oddW (i + 1) := by
        by_cases h4 : i < 4
        · have := oddW_lo h4
          omega
        · exact oddW_hi (by omega)
      have o1 : Oq (.tuple [d]) (2 + (i + 1)) (oddW (i + 1) - 3) := (Oq.tup (n := 1) (fun e he => by rw [List.mem_singleton.mp he]; exact ov') (by show 1 ≤ 1; decide)).mono (by omega) (by omega)
      have o2 : Oq (.list [d]) (2 + (i + 1)) (oddW (i + 1) - 3) := (Oq.lst (n := 1) (fun e he => by rw [List.mem_singleton.mp he]; exact ov') (by show 1 ≤ 1; decide)).mono (by omega) (by omega)
      have o3 : Oq (.dict [(.str "a", d)]) (2 + (i + 1)) (oddW (i + 1) - 3) := (Oq.dic ov').mono (by omega) (by omega)
      have o4 : Oq (.tuple es) (2 + (i + 1)) (oddW (i + 1) - 3) := (Oq.tup oE les').mono (by omega) (by
        by_cases h4 : i < 4
        · rw [if_pos h4]
          have := oddW_lo h4
          omega
        · rw [if_neg h4]
          omega)
      have T : Thgs N _ [.ref b1, .ref b2, .ref b3, .ref c5] (2 + (i + 1)) (oddW (i + 1) - 3) :=
        .cons (Dq.tup ((t2.trans (t3.trans (t4.trans (t5.trans t6)))) _ _ upd_same) (lG.out b1 k1) (.cons qv6 .nil)) o1
          (.cons (Dq.lst ((t3.trans (t4.trans (t5.trans t6))) _ _ upd_same) (w1.out b2 k2) z2 (.cons qv6 .nil)) o2
            (.cons (Dq.dic (kvs := [("a", v)]) ((t4.trans (t5.trans t6)) _ _ upd_same) (w2.out b3 k3) (.one qv6)) o3
              (.cons ((hT.fr (FrX.same t6)).dq) o4 .nil)))
      refine ⟨p, b6, _, n + 2 + i, rfl, pt.same g6, by omega, (pt.same (g4.trans t5)).ne k6, .inl (.inl upd_same), by show 0 < 4; decide, by show 4 < 1000000; decide, fun v' G' f' P' mem => ?_⟩
      obtain ⟨d', hq', ho'⟩ := T v' mem
      exact ⟨fr.trans ((Fr.same g6).trans f'), P', v', d', _, _, rfl, hq'.fr (FrX.of f' np), ho', by omega⟩
    · rintro σ G ⟨fr, pt, v, d, wt, y, rfl, qv, ov, hw⟩
      exact ⟨v, rfl, q v d G fr (pt.mono (by omega)) qv (ov.mono (by omega) (by have := oddW_le (i := mn) (by omega); omega))⟩
end
end C2

namespace C2
set_option Elab.async false
set_option linter.all false
set_option maxRecDepth 100000
set_option maxHeartbeats 1000000
open PySem PySem.Spec PyProof.Rows L2 HT
/-! ### sheets: tuples of tuples of signs -/
def Lv : Nat → PyData → Prop
  | 0 => fun d => d = .none ∨ ∃ i : Int, d = .int i ∧ 0 ≤ i ∧ i < 64
  | n + 1 => fun d => ∃ ds, d = .tuple ds ∧ ds.length ≤ 6 ∧ ∀ x ∈ ds, Lv n x
def wO : Nat → Nat
  | 0 => 101
  | n + 1 => (wO n + 1) * 7
def wB : Nat → Nat
  | 0 => 103
  | n + 1 => (wB n + 1) * 13
theorem wO_lt : ∀ n, wO n + 2 ≤ wB n
  | 0 => by decide
  | n + 1 => by
    have := wO_lt n
    show (wO n + 1) * 7 + 2 ≤ (wB n + 1) * 13
    omega
theorem Lv.oq : ∀ (n : Nat) {d : PyData}, Lv n d → Oq d n (wO n)
  | 0, d, h => by
    rcases h with rfl | ⟨i, rfl, h0, h1⟩
    · exact oq_non
    · exact oq_int h0 h1
  | n + 1, d, h => by
    obtain ⟨ds, rfl, l, all⟩ := h
    exact Oq.tup (fun x hx => Lv.oq n (all x hx)) (by omega)
theorem lay_all {P : PyData → Prop} (h : ∀ d, P d → d.canLay0 = true) : ∀ {ds : List PyData}, (∀ x ∈ ds, P x) → PyData.canLayAll0 ds = true
  | [], _ => by simp [PyData.canLayAll0]
  | d :: ds, a => by
    rw [PyData.canLayAll0, h d (a d List.mem_cons_self), lay_all h fun x hx => a x (List.mem_cons_of_mem _ hx)]
    rfl
theorem Lv.lay : ∀ (n : Nat) (d : PyData), Lv n d → d.canLay0 = true
  | 0, d, h => by
    rcases h with rfl | ⟨i, rfl, h0, h1⟩
    · simp [PyData.canLay0]
    · simp [PyData.canLay0]
  | n + 1, d, h => by
    obtain ⟨ds, rfl, l, all⟩ := h
    rw [PyData.canLay0]
    exact lay_all (Lv.lay n) all
theorem Lv.shaped {n : Nat} {d : PyData} (h : Lv n d) (hn : n ≤ 60) : SeqAt.shaped d = true := by
  have z := (Lv.oq n h).dp
  unfold SeqAt.shaped
  rw [Lv.lay n d h, Bool.true_and]
  exact decide_eq_true (by omega)
/-- signs -/
def Lf (vs : List V) : Prop := ∀ v ∈ vs, v = .non ∨ ∃ i : Int, v = .int i ∧ 0 ≤ i ∧ i < 64
theorem Lf.snoc {vs : List V} {v : V} (h : Lf vs) (hv : v = .non ∨ ∃ i : Int, v = .int i ∧ 0 ≤ i ∧ i < 64) : Lf (vs ++ [v]) := fun x hx => by
  rcases List.mem_append.mp hx with hx | hx
  · exact h x hx
  · rw [List.mem_singleton.mp hx]; exact hv
theorem Lf.dq {E : Addr → Prop} {G : Hp} : ∀ {vs : List V}, Lf vs → ∃ ds, DqAll E G vs ds ∧ ds.length = vs.length ∧ ∀ x ∈ ds, Lv 0 x
  | [], _ => ⟨[], .nil, rfl, fun x hx => nomatch hx⟩
  | v :: vs, h => by
    obtain ⟨ds, a, b, c⟩ := Lf.dq (E := E) (G := G) (vs := vs) fun x hx => h x (List.mem_cons_of_mem _ hx)
    rcases h v List.mem_cons_self with rfl | ⟨i, rfl, h0, h1⟩
    · refine ⟨.none :: ds, .cons .non a, by rw [List.length_cons, List.length_cons, b], fun x hx => ?_⟩
      rcases List.mem_cons.mp hx with rfl | hx
      · exact .inl rfl
      · exact c x hx
    · refine ⟨.int i :: ds, .cons (.int i) a, by rw [List.length_cons, List.length_cons, b], fun x hx => ?_⟩
      rcases List.mem_cons.mp hx with rfl | hx
      · exact .inr ⟨i, rfl, h0, h1⟩
      · exact c x hx
theorem Lf.of {E : Addr → Prop} {G : Hp} : ∀ {ds : List PyData} {vs : List V}, DqAll E G vs ds → (∀ x ∈ ds, Lv 0 x) → Lf vs
  | [], _, h, _ => by cases h; exact fun v hv => nomatch hv
  | d :: ds, _, h, a => by
    cases h with
    | cons x t =>
      intro v hv
      rcases List.mem_cons.mp hv with rfl | hv
      · rcases a d List.mem_cons_self with rfl | ⟨i, rfl, h0, h1⟩
        · cases x; exact .inl rfl
        · cases x; exact .inr ⟨i, rfl, h0, h1⟩
      · exact Lf.of t (fun y hy => a y (List.mem_cons_of_mem _ hy)) v hv
theorem lv_snoc {n : Nat} {ds : List PyData} {d : PyData} (h : ∀ x ∈ ds, Lv n x) (hd : Lv n d) : ∀ x ∈ ds ++ [d], Lv n x := fun x hx => by
  rcases List.mem_append.mp hx with hx | hx
  · exact h x hx
  · rw [List.mem_singleton.mp hx]; exact hd
theorem fr_lst {p l : Addr} {H0 H : Hp} {o : HO} (h : Fr p H0 H) (n : H0 l = none) : Fr p H0 (upd H l o) := fun b x nb e => by
  rw [upd_ne (ne_of_none e n)]
  exact h b x nb e
section
variable {P : Program} {w : World} {K : PySem.W.Frag} {mg : Str → Option Value} {base : Heap}
theorem lc_hole {te : TE} {σ : L2.St} {H : Hp} {Q : VK} {p c : Addr} {xs : List V} {n : Nat} (ha : σ[6]? = some (some (.ref c))) (hx : H c = some (.tup xs)) (few : xs.length ≤ 6) (hP : PotAt H p n) (hn : n < 800000) (lf : Lf xs) (hs : ∀ v, wipe ((wipe σ [7]).set 7 (some v)) [7] = wipe σ [7])
    (hte : ∀ (v : V) (G : Hp) (m : Nat) (R : VK), (v = .non ∨ ∃ i : Int, v = .int i ∧ 0 ≤ i ∧ i < 64) → PotAt G p m → m < 900000 → (∀ u G', (u = .non ∨ ∃ i : Int, u = .int i ∧ 0 ≤ i ∧ i < 64) → Fr p G G' → PotAt G' p (m + 1) → R u G') → te ((wipe σ [7]).set 7 (some v)) G R)
    (k : ∀ D ys G, Fr p H G → PotAt G p (n + 6) → H D = none → D ≠ p → G D = some (.lst ys) → ys.length ≤ 6 → Lf ys → Q (.ref D) G) : tLc (iTup K (tVar 6)) (gName 7) tYes te [7] σ H Q := by
  have ncp : c ≠ p := fun z => by
    obtain ⟨g, cc, u, e, _⟩ := hP
    rw [z, e] at hx
    cases hx
  refine ⟨_, ha, c, rfl, ⟨_, .inl (.inl hx)⟩, fun D nD => ?_⟩
  have nDp : D ≠ p := hP.ne nD
  refine lc_tup (xs := xs) (fun m G => Fr p H G ∧ PotAt G p (n + m) ∧ m ≤ xs.length ∧ ∃ ys, G D = some (.lst ys) ∧ ys.length = m ∧ Lf ys) ⟨Fr.new nD, hP.new nD, Nat.zero_le _, [], upd_same, rfl, fun v hv => nomatch hv⟩ (fun m G' _ h => .inl (.inl (h.1 _ _ ncp hx))) ?_ ?_
  · rintro m v G hv ⟨fr, pt, _, ys, hD, hl, ly⟩
    refine ⟨hs _, ?_⟩
    simp only [tYes, ↓reduceIte]
    have hm : m < xs.length := (List.getElem?_eq_some_iff.mp hv).1
    refine hte v G (n + m) _ (lf v (List.mem_of_getElem? hv)) pt (by omega) fun u G' lu f' P' => ⟨_, f' _ _ nDp hD, ?_, fr_lst (fr.trans f') nD, P'.at nDp, hm, ys ++ [u], upd_same, by rw [List.length_append, hl]; rfl, ly.snoc lu⟩
    exact Nat.lt_of_lt_of_le (show ys.length < 1000 by omega) (by decide)
  · rintro G ⟨fr, pt, _, ys, hD, hl, ly⟩
    exact k D ys G fr (pt.mono (by omega)) nD nDp hD (by omega) ly
abbrev NHd : List Str := ["_law_pot_here", "_law_sheet", "_law_often", "_law_sides", "_law_side", "_law_threads", "_law_thread", "_law_sign"]
theorem scLHoled : FnScope NHd ["_law_pot_here", "_law_sheet", "_law_often"] (defScope sLHoled) := ⟨rfl, rfl, rfl, by decide +kernel, rfl, by decide +kernel, by decide +kernel⟩
def teHo : TE := tIf (tTest (tOp rEq (tCall spTake [] E0 (tCons (tVar 0) (tCons (tVar 2) tNil))) (tC (.int 0)))) (tVar 7) (tC .non)
def spLHoled : Sp := fun vs H Q _ => ∃ (p a : Addr) (d : PyData) (n : Nat) (o : Int) (N : Addr → Prop), vs = [.ref p, .ref a, .int o] ∧ 0 < o ∧ o < 100 ∧ PotAt H p n ∧ n < 700000 ∧ N p ∧ LstN N H ∧ Dq N H (.ref a) d ∧ Lv 3 d ∧ ∀ (t : Addr) (e : PyData) H', Fr p H H' → PotAt H' p (n + 216) → Dq N H' (.ref t) e → Lv 3 e → Q (.ref t) H'
theorem ok_lholed {f fT : Addr} {fd fdT : FuncData} {k : Nat} (F : Fun K "_law_holed" "_law_holed" sLHoled f fd) (FT : Fun K "_law_take" "_law_take" sTake fT fdT) (bT : Binds K fdT ["_law_pot_here", "_law_many"] []) (gT : mg "_law_take" = some (.ref fT)) (mtup : mg "tuple" = none) : FnOk P w K mg base CX0 (k + 2) f fd ["_law_pot_here", "_law_sheet", "_law_often"] spLHoled := by
  have GT : FnOk P w K mg base CX0 (k + 1) fT fdT ["_law_pot_here", "_law_many"] spTake := ok_take FT
  refine F.ok scLHoled (fun vs H Q E h => ?_) (fun cdv A outer s H vs Q E hr h => ?_)
  · obtain ⟨p, a, d, n, o, N, rfl, _⟩ := h
    rfl
  · obtain ⟨p, a, d, n, o, N, rfl, o0, o9, hP, hn, np, lN, qd, lv, q⟩ := h
    have nd := scLHoled.nd
    refine ⟨_, pss_cons (ps_set (i := 3) nd rfl (.inl rfl) (pe_lst pa_nil))
      (pss_cons (ps_for PassesOwn.never rfl (pi_tup (pv 1)) (pg_name (i := 4) nd rfl (.inl rfl)) (pss_cons (ps_set (i := 5) nd rfl (.inl rfl) (pe_lst pa_nil))
      (pss_cons (ps_for PassesOwn.never rfl (pi_tup (pv 4)) (pg_name (i := 6) nd rfl (.inl rfl)) (pss_one (ps_expr (pe_bm PySem.F.plainAttrs_list PySem.F.slot_list_append PySem.F.type_list_append mt_append (pv 5) (pa_cons (pe_callTy call_tuple_of (by rfl) mtup (by decide +kernel) (pa_cons (pe_lc (own := [("_law_sign", 7)]) (g := gName 7) (tt := tYes) (te := teHo) rfl nd (pi_tup (pv 6)) (blkOk_by (own := [("_law_sign", 7)]) (N := NHd) (sc := defScope sLHoled) (by decide +kernel)) (fun _ _ _ _ _ => pg_name (i := 7) nd rfl (.inl rfl)) (fun _ _ _ _ _ => pts_nil) (fun _ _ _ _ _ => (pe_ifExp (pt_cmpR op_eq (pe_call GT (hr.mono (by omega)) (by rfl) gT FT.kp bT .nil pass0 (pa_cons (pv 0) (pa_cons (pv 2) pa_nil))) pe_int (nomark _)) (pv 7) pe_non))) pa_nil)) pa_nil)))))
      (pss_one (ps_expr (pe_bm PySem.F.plainAttrs_list PySem.F.slot_list_append PySem.F.type_list_append mt_append (pv 3) (pa_cons (pe_callTy call_tuple_of (by rfl) mtup (by decide +kernel) (pa_cons (pv 5) pa_nil)) pa_nil)))))))
      (pss_one (ps_ret (pe_callTy call_tuple_of (by rfl) mtup (by decide +kernel) (pa_cons (pv 3) pa_nil))))), ?_⟩
    obtain ⟨ds, rfl, lds, all⟩ := lv
    cases qd with
    | tup ea na da =>
    rename_i xs
    have lxs := da.len
    refine ⟨by decide, fun l1 n1 => ?_⟩
    have s1 := same_upd (o := .lst []) n1
    refine ⟨.ref a, rfl, a, rfl, ⟨_, .inl (.inl (s1 _ _ ea))⟩, ?_⟩
    have nap : a ≠ p := fun z => na (z ▸ np)
    refine for_tup (xs := xs) (fun r σ G => Fr p H G ∧ PotAt G p (n + 36 * r) ∧ r ≤ xs.length ∧ (∃ ts es, G l1 = some (.lst ts) ∧ DqAll (fun a => N a ∨ a = l1) G ts es ∧ es.length = r ∧ ∀ x ∈ es, Lv 2 x) ∧ ∃ y4 y5 y6, σ = [some (.ref p), some (.ref a), some (.int o), some (.ref l1), y4, y5, y6, none])
      ⟨Fr.same s1, hP.same s1, Nat.zero_le _, ⟨[], [], upd_same, .nil, rfl, fun x hx => nomatch hx⟩, _, _, _, rfl⟩ (fun r σ G _ h => .inl (.inl (h.1 _ _ nap ea))) ?_ ?_
    · rintro r x σ G hx ⟨fr, pt, _, ⟨ts, es, hl1, dts, les, lve⟩, y4, y5, y6, rfl⟩
      have hr' : r < xs.length := (List.getElem?_eq_some_iff.mp hx).1
      obtain ⟨d1, hd1, qx⟩ := da.at_ hx
      obtain ⟨ds1, rfl, lds1, all1⟩ := all d1 (List.mem_of_getElem? hd1)
      cases qx with
      | tup ec nc dc =>
      rename_i c us
      have lus := dc.len
      have ncp : c ≠ p := fun z => nc (z ▸ np)
      refine ⟨by decide, fun l2 n2 => ?_⟩
      have s2 := same_upd (o := .lst []) n2
      have n2H : H l2 = none := by
        by_cases z : l2 = p
        · exact absurd z (pt.ne n2)
        · cases e : H l2 with
          | none => rfl
          | some o' => rw [fr _ _ z e] at n2; cases n2
      have n12 : l1 ≠ l2 := fun z => by rw [z, n2] at hl1; cases hl1
      refine ⟨.ref c, rfl, c, rfl, ⟨_, .inl (.inl (s2 _ _ (fr _ _ ncp ec)))⟩, ?_⟩
      refine for_tup (xs := us) (fun m σ G' => Fr p H G' ∧ G' l1 = some (.lst ts) ∧ DqAll (fun a => (N a ∨ a = l1) ∨ a = l2) G' ts es ∧ PotAt G' p (n + 36 * r + 6 * m) ∧ m ≤ us.length ∧ (∃ zs fs, G' l2 = some (.lst zs) ∧ DqAll (fun a => (N a ∨ a = l1) ∨ a = l2) G' zs fs ∧ fs.length = m ∧ ∀ x ∈ fs, Lv 1 x) ∧ ∃ y6, σ = [some (.ref p), some (.ref a), some (.int o), some (.ref l1), some (.ref c), some (.ref l2), y6, none])
        ⟨fr.trans (Fr.same s2), s2 _ _ hl1, (dts.more n2).fr (FrX.same s2), pt.same s2, Nat.zero_le _, ⟨[], [], upd_same, .nil, rfl, fun x hx => nomatch hx⟩, _, rfl⟩ (fun m σ G' _ h => .inl (.inl (h.1 _ _ ncp ec))) ?_ ?_
      · rintro m y σ G' hy ⟨fr', hl1', dts', pt', _, ⟨zs, fs, hl2, dzs, lfs, lvf⟩, y6, rfl⟩
        obtain ⟨d2, hd2, qy⟩ := dc.at_ hy
        obtain ⟨ds2, rfl, lds2, all2⟩ := all1 d2 (List.mem_of_getElem? hd2)
        have hm : m < us.length := (List.getElem?_eq_some_iff.mp hy).1
        cases qy with
        | tup eb nb db =>
        rename_i b ws
        have lws := db.len
        have nbp : b ≠ p := fun z => nb (z ▸ np)
        have n2p : l2 ≠ p := pt.ne n2
        refine ⟨.ref l2, rfl, .inl ⟨rfl, _, .inl (.inl hl2)⟩, ?_⟩
        refine tcb_run (lc_hole (te := teHo) (p := p) (c := b) (xs := ws) (n := n + 36 * r + 6 * m) rfl (fr' _ _ nbp eb) (by omega) pt' (by omega) (Lf.of db all2) (fun v => rfl) (fun v G3 m3 R hv P3 hm3 kk => ?_) fun D vs G3 f3 P3 nD nDp hD lvs lfv => ?_)
        · refine ⟨.ref p, rfl, .int o, rfl, p, o, m3, rfl, P3, by omega, o0, by omega, fun d4 G4 f4 P4 _ _ => ⟨rfl, _, rfl, ite2 (fun z => ⟨v, rfl, kk v G4 hv f4 P4⟩) (fun z => kk _ G4 (.inl rfl) f4 P4)⟩⟩
        · have l12 : l2 ≠ D := fun z => by rw [z] at hl2; rw [hl2] at nD; cases nD
          have l11 : l1 ≠ D := fun z => by rw [z] at hl1'; rw [hl1'] at nD; cases nD
          have l1p : l1 ≠ p := hP.ne n1
          refine ⟨D, _, rfl, .inl ⟨.inl (.inl hD), fun t nt => ?_⟩⟩
          have s4 := same_upd (o := .tup vs) nt
          have hl2a := s4 _ _ (f3 _ _ n2p hl2)
          have hl1a := s4 _ _ (f3 _ _ l1p hl1')
          refine ⟨l2, zs, .ref t, rfl, rfl, hl2a, Nat.lt_of_lt_of_le (show zs.length < 1000 by have := dzs.len; omega) (by decide), ?_⟩
          have frA : Fr p H (upd G3 t (.tup vs)) := (fr'.trans f3).trans (Fr.same s4)
          have LG : LstN (fun a => (N a ∨ a = l1) ∨ a = l2) (upd G3 t (.tup vs)) := (((lN.fr frA (P3.same s4)).more hl1a).more hl2a)
          have LG3 : LstN (fun a => (N a ∨ a = l1) ∨ a = l2) G3 := (((lN.fr (fr'.trans f3) P3).more (f3 _ _ l1p hl1')).more (f3 _ _ n2p hl2))
          have fu : FrX (fun a => (N a ∨ a = l1) ∨ a = l2) (upd G3 t (.tup vs)) (upd (upd G3 t (.tup vs)) l2 (.lst (zs ++ [.ref t]))) := fun b' o' nb' hb' => by
            rw [upd_ne (fun z => nb' (.inr z))]
            exact hb'
          have fx : FrX (fun a => (N a ∨ a = l1) ∨ a = l2) G' (upd G3 t (.tup vs)) := fun b' o' nb' hb' => s4 _ _ (f3 _ _ (fun z => nb' (.inl (.inl (z ▸ np)))) hb')
          obtain ⟨gs, dgs, lgs, lvg⟩ := lfv.dq (E := fun a => (N a ∨ a = l1) ∨ a = l2) (G := upd (upd G3 t (.tup vs)) l2 (.lst (zs ++ [.ref t])))
          refine ⟨fr_lst frA n2H, by rw [upd_ne n12]; exact hl1a, (dts'.fr fx).fr fu, (P3.same s4).at n2p |>.mono (by omega), hm, ⟨zs ++ [.ref t], fs ++ [.tuple gs], upd_same, ((dzs.fr fx).fr fu).app (.cons (.tup (by rw [upd_ne (fun z => by rw [← z, upd_same] at hl2a; cases hl2a)]; exact upd_same) (LG3.out t nt) dgs) .nil), by rw [List.length_append, lfs]; rfl, lv_snoc lvf ⟨gs, rfl, by omega, lvg⟩⟩, _, rfl⟩
      · rintro σ G' ⟨fr', hl1', dts', pt', _, ⟨zs, fs, hl2, dzs, lfs, lvf⟩, y6, rfl⟩
        have l1p : l1 ≠ p := hP.ne n1
        refine ⟨.ref l1, rfl, .inl ⟨rfl, _, .inl (.inl hl1')⟩, ⟨.ref l2, rfl, l2, _, rfl, .inl ⟨.inl (.inl hl2), fun t nt => ?_⟩⟩⟩
        have s4 := same_upd (o := .tup zs) nt
        have hl1a := s4 _ _ hl1'
        have LG' : LstN (fun a => N a ∨ a = l1) G' := (lN.fr fr' pt').more hl1'
        have fu : FrX (fun a => N a ∨ a = l1) (upd G' t (.tup zs)) (upd (upd G' t (.tup zs)) l1 (.lst (ts ++ [.ref t]))) := fun b' o' nb' hb' => by
          rw [upd_ne (fun z => nb' (.inr z))]
          exact hb'
        refine ⟨l1, ts, .ref t, rfl, rfl, hl1a, Nat.lt_of_lt_of_le (show ts.length < 1000 by have := dts.len; omega) (by decide), ?_⟩
        refine ⟨fr_lst (fr'.trans (Fr.same s4)) n1, (pt'.same s4).at l1p |>.mono (by omega), hr', ⟨ts ++ [.ref t], es ++ [.tuple fs], upd_same, (((dts'.less (fun a h => .inl h)).fr (FrX.same s4)).fr fu).app (.cons (.tup (by rw [upd_ne (fun z => by rw [← z, upd_same] at hl1a; cases hl1a)]; exact upd_same) (LG'.out t nt) (((dzs.less (fun a h => .inl h)).fr (FrX.same s4)).fr fu)) .nil), by rw [List.length_append, les]; rfl, lv_snoc lve ⟨fs, rfl, by omega, lvf⟩⟩, _, _, _, rfl⟩
    · rintro σ G ⟨fr, pt, _, ⟨ts, es, hl1, dts, les, lve⟩, y4, y5, y6, rfl⟩
      refine ⟨.ref l1, rfl, l1, _, rfl, .inl ⟨.inl (.inl hl1), fun t nt => ?_⟩⟩
      have s4 := same_upd (o := .tup ts) nt
      exact q t (.tuple es) _ (fr.trans (Fr.same s4)) ((pt.same s4).mono (by omega)) (.tup upd_same ((lN.fr fr pt).out t nt) ((dts.less (fun a h => .inl h)).fr (FrX.same s4))) ⟨es, rfl, by omega, lve⟩
end
end C2

namespace C2
set_option Elab.async false
set_option linter.all false
set_option maxRecDepth 100000
set_option maxHeartbeats 1000000
open PySem PySem.Spec PyProof.Rows L2 HT
section
variable {X : Cx}
/-- == of data -/
def rEqQ : R2 := fun x y H Q => ∃ (E F : Addr → Prop) (d e : PyData), Dq E H x d ∧ Dq F H y e ∧ SeqAt.shaped d = true ∧ SeqAt.shaped e = true ∧ Q (.bl (PyData.eqv d e)) H
theorem op_eqQ (room : X.A.units + 64 < cLine) : OpR X (compareOp .Eq) rEqQ := by
  rintro pins s0 σ G one other u1 u2 R inv rel1 rel2 ⟨E, F, d, e, hd, he, sd, se, q⟩
  have ⟨_, reads1, _⟩ := Dq.reads inv d hd rel1
  have ⟨_, reads2, _⟩ := Dq.reads inv e he rel2
  refine SeqAt.compareEq_shaped reads1 reads2 sd se room ?_
  exact ⟨.bl (PyData.eqv d e), G, inv, rfl, q⟩
end
section
variable {P : Program} {w : World} {K : PySem.W.Frag} {mg : Str → Option Value} {base : Heap}
theorem Oq.shows' {E : Addr → Prop} {G : Hp} {v : V} {d : PyData} {dp wt : Nat} (h : Dq E G v d) (o : Oq d dp wt) (hd : dp ≤ 60) (hw : wt ≤ 390000) : Shows G v d.shown := by
  have z := PyData.shown_le 40 (by decide) d o.ls
  have s : 16777216 ≤ sizeLine := by decide
  have w := o.wt
  exact ⟨E, d, h, o.sh, Nat.le_trans o.dp hd, by omega, rfl⟩
theorem pow30 : CPow 10 30 := ⟨by decide, by decide, by decide⟩
def tThen (K : PySem.W.Frag) : TS := tSeq (tAsg (tLst (tCons (tC V.non) (tCons (tC (V.bl true)) (tCons (tC (V.bl false)) (tCons (tUn (rU fun i => V.int (-i)) (tC (V.int 1))) (tCons (tVar 1) (tCons (tOp (rI0 fun i j => V.int (i - j)) (tVar 1) (tC (V.int 1))) (tCons (tC (V.str "0")) (tCons (tC (V.str "")) (tCons (tTup tNil) (tCons (tLstS tNil) (tCons tDNewK (tCons (tTup (tCons (tC (V.int 0)) tNil)) (tCons (tTup (tCons (tC V.non) tNil)) (tCons (tOp (rI CPow fun i j => V.int (i ^ j.toNat)) (tC (V.int 10)) (tC (V.int 30))) tNil))))))))))))))) (gName 4)) (tRet (tCall (spOf K) [] E0 (tCons (tVar 0) (tCons (tOp rCat (tVar 4) (tLst (tCons (tLstS (tCons (tVar 2) tNil)) tNil))) tNil))))
/-- another thing in its place -/
theorem then_ok {D : Ends} {G : Hp} {p : Addr} {b way : Int} {v : V} {d : PyData} {N : Addr → Prop} {m n : Nat} (b2 : 2 ≤ b) (b7 : b ≤ 7) (hP : PotAt G p m) (hm : m < 900000) (np : N p) (lN : LstN N G) (qv : Dq N G v d) (lv : Lv n d)
    (q : ∀ (v' : V) (d' : PyData) G', Fr p G G' → PotAt G' p (m + 1) → Dq N G' v' d' → Oq d' (n + 2) (wB n) → D.rt v' G') : tThen K D [some (.ref p), some (.int b), some v, some (.int way), none, none] G := by
  refine ⟨1, rfl, .int b, rfl, .int b, rfl, b, 1, rfl, rfl, by decide, fun a1 m1 => ⟨by decide, fun a2 m2 y2 => fun a3 m3 => ⟨by show 1 ≤ sizeLine; decide, fun a4 m4 => ⟨by show 1 ≤ sizeLine; decide, fun a5 m5 => ⟨10, 30, rfl, rfl, pow30, by show 14 ≤ sizeLine; decide, fun l1 n1 => ?_⟩⟩⟩⟩⟩
  have s1 := same_upd (o := .tup []) m1
  have s2 := same_upd (o := .lst []) m2
  have s3 := same_upd (o := .dK []) m3
  have s4 := same_upd (o := .tup [.int 0]) m4
  have s5 := same_upd (o := .tup [.non]) m5
  have s6 := same_upd (o := .lst [.non, .bl true, .bl false, .int (-1), .int b, .int (b - 1), .str "0", .str "", .ref a1, .ref a2, .ref a3, .ref a4, .ref a5, .int ((10 : Int) ^ (30 : Int).toNat)]) n1
  have L1 := lN.same s1
  have L2 := L1.same s2
  have L3 := L2.same s3
  have L4 := L3.same s4
  have L5 := L4.same s5
  have L6 := L5.same s6
  have r05 := s1.trans (s2.trans (s3.trans (s4.trans s5)))
  have r06 := r05.trans s6
  refine ⟨.ref p, rfl, .ref l1, rfl, v, rfl, by show 1 ≤ sizeLine; decide, fun a7 m7 y7 => ⟨by show 1 ≤ sizeLine; decide, fun a8 m8 => ?_⟩⟩
  have s7 := same_upd (o := .lst [v]) m7
  have s8 := same_upd (o := .lst [.ref a7]) m8
  refine ⟨l1, a8, _, _, rfl, rfl, s8 _ _ (s7 _ _ upd_same), upd_same, by show 15 ≤ sizeLine; decide, fun l9 n9 => ?_⟩
  have s9 := same_upd (o := .lst ([.non, .bl true, .bl false, .int (-1), .int b, .int (b - 1), .str "0", .str "", .ref a1, .ref a2, .ref a3, .ref a4, .ref a5, .int ((10 : Int) ^ (30 : Int).toNat)] ++ [.ref a7])) n9
  have r9 := s7.trans (s8.trans s9)
  have r6 := s6.trans r9
  have r5 := s5.trans r6
  have r4 := s4.trans r5
  have r3 := s3.trans r4
  have r2 := s2.trans r3
  have r0 := s1.trans r2
  have up : ∀ {d : PyData} {dp wt : Nat}, Oq d dp wt → dp ≤ 1 → wt ≤ 103 → Oq d (n + 2) (wB n) := fun h a b => h.mono (by omega) (by
    have : 103 ≤ wB n := by
      cases n with
      | zero => decide
      | succ n => show 103 ≤ (wB n + 1) * 13; have := wO_lt n; cases n with
        | zero => decide
        | succ n => show 103 ≤ ((wB n + 1) * 13 + 1) * 13; omega
    omega)
  have e0 : Oq (.tuple []) 1 0 := Oq.tup (ds := []) (dp := 0) (wt := 101) (n := 0) (fun d hd => nomatch hd) (by decide)
  have e1 : Oq (.list []) 1 0 := Oq.lst (ds := []) (dp := 0) (wt := 101) (n := 0) (fun d hd => nomatch hd) (by decide)
  have z1 : Oq (.tuple [.int 0]) 1 102 := Oq.tup (dp := 0) (wt := 101) (n := 1) (fun d hd => by rw [List.mem_singleton.mp hd]; exact oq_int (by decide) (by decide)) (by decide)
  have z2 : Oq (.tuple [.none]) 1 102 := Oq.tup (dp := 0) (wt := 101) (n := 1) (fun d hd => by rw [List.mem_singleton.mp hd]; exact oq_non) (by decide)
  have ov : Oq (.list [d]) (n + 2) (wB n) := (Oq.lst (n := 1) (fun e he => by rw [List.mem_singleton.mp he]; exact Lv.oq n lv) (by show 1 ≤ 1; decide)).mono (by omega) (by have := wO_lt n; omega)
  have T : Thgs N _ ([.non, .bl true, .bl false, .int (-1), .int b, .int (b - 1), .str "0", .str "", .ref a1, .ref a2, .ref a3, .ref a4, .ref a5, .int ((10 : Int) ^ (30 : Int).toNat)] ++ [.ref a7]) (n + 2) (wB n) :=
    .cons .non (up oq_non (by decide) (by decide)) (.cons (.bl _) (up (oq_bl _) (by decide) (by decide)) (.cons (.bl _) (up (oq_bl _) (by decide) (by decide)) (.cons (.int _) (up oq_less (by decide) (by decide)) (.cons (.int _) (up (oq_int (v := b) (by omega) (by omega)) (by decide) (by decide)) (.cons (.int _) (up (oq_int (v := b - 1) (by omega) (by omega)) (by decide) (by decide)) (.cons (.str _) (up oq_str0 (by decide) (by decide)) (.cons (.str _) (up oq_void (by decide) (by decide))
      (.cons (.tup (r2 _ _ upd_same) (lN.out a1 m1) .nil) (up e0 (by decide) (by decide))
        (.cons (.lst (r3 _ _ upd_same) (L1.out a2 m2) y2 .nil) (up e1 (by decide) (by decide))
          (.cons (.dic (kvs := []) (r4 _ _ upd_same) (L2.out a3 m3) .nil) (up Oq.dic0 (by decide) (by decide))
            (.cons (.tup (r5 _ _ upd_same) (L3.out a4 m4) (.cons (.int 0) .nil)) (up z1 (by decide) (by decide))
              (.cons (.tup (r6 _ _ upd_same) (L4.out a5 m5) (.cons .non .nil)) (up z2 (by decide) (by decide))
                (.cons (.int _) (up oq_great (by decide) (by decide))
                  (.cons (.lst ((s8.trans s9) _ _ upd_same) (L6.out a7 m7) y7 (.cons (qv.fr (FrX.same r0)) .nil)) ov .nil))))))))))))))
  have P8 := ((hP.same r06).same s7).same s8
  refine ⟨p, l9, _, m, rfl, hP.same r0, by omega, P8.ne n9, .inl (.inl upd_same), by show 0 < 15; decide, by show 15 < 1000000; decide, fun v' G' f' P' mem => ?_⟩
  obtain ⟨d', hq', ho'⟩ := T v' mem
  exact q v' d' G' ((Fr.same r0).trans f') P' (hq'.fr (FrX.of f' np)) ho'
abbrev NBt : List Str := ["_law_pot_here", "_law_base", "_law_item", "_law_way", "_law_some", "_law_at"]
theorem scBent : FnScope NBt ["_law_pot_here", "_law_base", "_law_item"] (defScope sBent) := ⟨rfl, rfl, rfl, by decide +kernel, rfl, by decide +kernel, by decide +kernel⟩
def spBent (n : Nat) : Sp := fun vs H Q _ => ∃ (p : Addr) (b : Int) (v : V) (d : PyData) (m : Nat) (N : Addr → Prop), vs = [.ref p, .int b, v] ∧ 2 ≤ b ∧ b ≤ 7 ∧ PotAt H p m ∧ m + 3 * n < 800000 ∧ N p ∧ LstN N H ∧ Dq N H v d ∧ Lv n d ∧ ∀ (v' : V) (d' : PyData) H', Fr p H H' → PotAt H' p (m + 3 * (n + 1)) → Dq N H' v' d' → Oq d' (n + 2) (wB n) → Q v' H'
def spRec : Nat → Sp
  | 0 => fun _ _ _ _ => False
  | n + 1 => spBent n
theorem ok_bent0 {f : Addr} {fd : FuncData} {k : Nat} (F : Fun K "_law_bent" "_law_bent" sBent f fd) : FnOk P w K mg base CX0 (k + 1) f fd ["_law_pot_here", "_law_base", "_law_item"] (spRec 0) :=
  F.ok scBent (fun vs H Q E h => (show False from h).elim) (fun cdv A outer s H vs Q E hr h => (show False from h).elim)
theorem bent_step {n : Nat} (hn : n ≤ 50) {f fO fT : Addr} {fd fdO fdT : FuncData} {k : Nat} (F : Fun K "_law_bent" "_law_bent" sBent f fd) (FO : Fun K "_law_of" "_law_of" sOf fO fdO) (FT : Fun K "_law_take" "_law_take" sTake fT fdT) (bR : Binds K fd ["_law_pot_here", "_law_base", "_law_item"] []) (bO : Binds K fdO ["_law_pot_here", "_law_some"] []) (bT : Binds K fdT ["_law_pot_here", "_law_many"] [])
    (gR : mg "_law_bent" = some (.ref f)) (gO : mg "_law_of" = some (.ref fO)) (gT : mg "_law_take" = some (.ref fT)) (ml : mg "len" = none) (mi : mg "isinstance" = none) (mtup : mg "tuple" = none) (mlist : mg "list" = none) (GR : FnOk P w K mg base CX0 (k + 2) f fd ["_law_pot_here", "_law_base", "_law_item"] (spRec n)) : FnOk P w K mg base CX0 (k + 3) f fd ["_law_pot_here", "_law_base", "_law_item"] (spBent n) := by
  have GT : FnOk P w K mg base CX0 1 fT fdT ["_law_pot_here", "_law_many"] spTake := ok_take FT
  have GO : FnOk P w K mg base CX0 (k + 2) fO fdO ["_law_pot_here", "_law_some"] (spOf K) := ok_of FO FT bT gT ml
  have FR := F
  refine F.ok scBent (fun vs H Q E h => ?_) (fun cdv A outer s H vs Q E hr h => ?_)
  · obtain ⟨p, b, v, d, m, N, rfl, _⟩ := h
    rfl
  · obtain ⟨p, b, v, d, m, N, rfl, b2, b7, hP, hm, np, lN, qv, lv, q⟩ := h
    have nd := scBent.nd
    refine ⟨_, pss_cons (ps_set (i := 3) nd rfl (.inl rfl) (pe_call GT (hr.mono (by omega)) (by rfl) gT FT.kp bT .nil pass0 (pa_cons (pv 0) (pa_cons pe_int pa_nil))))
      (pss_cons (ps_if (PW.pt (pw_or (pt_not (pt_val (pe_callB call_isi (by rfl) mi (by decide +kernel) (pa_cons (pv 2) (pa_cons (pe_bltn (v := .ty "tuple") (by rfl) mtup (by decide +kernel) rfl) pa_nil))))) (pw_or (pt_cmpR (op_eqQ hr.units) (pv 2) (pe_tup pa_nil) (nomark _)) (pw_or1 (pt_cmpR op_eq (pv 3) pe_int (nomark _)))))) (pss_cons (ps_set (i := 4) nd rfl (.inl rfl) (pe_lst (pa_cons pe_non (pa_cons pe_bl (pa_cons pe_bl (pa_cons (pe_un un_neg pe_int) (pa_cons (pv 1) (pa_cons (pe_op op_sub (pv 1) pe_int) (pa_cons pe_str (pa_cons pe_str (pa_cons (pe_tup pa_nil) (pa_cons (pe_lstS pa_nil) (pa_cons pe_dnewK (pa_cons (pe_tup (pa_cons pe_int pa_nil)) (pa_cons (pe_tup (pa_cons pe_non pa_nil)) (pa_cons (pe_op op_pow pe_int pe_int) pa_nil))))))))))))))))
      (pss_one (ps_ret (pe_call GO hr (by rfl) gO FO.kp bO .nil pass0 (pa_cons (pv 0) (pa_cons (pe_op op_cat (pv 4) (pe_lst (pa_cons (pe_lstS (pa_cons (pv 2) pa_nil)) pa_nil))) pa_nil)))))) pss_nil)
      (pss_cons (ps_set (i := 5) nd rfl (.inl rfl) (pe_call GT (hr.mono (by omega)) (by rfl) gT FT.kp bT .nil pass0 (pa_cons (pv 0) (pa_cons (pe_callB call_len_seq (by rfl) ml PySem.boot_len (pa_cons (pv 2) pa_nil)) pa_nil))))
      (pss_cons (ps_if (pt_cmpR op_eq (pv 3) pe_int (nomark _)) (pss_one (ps_ret (pe_op op_catA (pe_slice sl_tupA (pv 2) po_none (po_some (pv 5))) (pe_slice sl_tupA (pv 2) (po_some (pe_op op_add (pv 5) pe_int)) po_none)))) pss_nil)
      (pss_cons (ps_if (pt_cmpR op_eq (pv 3) pe_int (nomark _)) (pss_one (ps_ret (pe_op op_catA (pe_slice sl_tupA (pv 2) po_none (po_some (pe_op op_add (pv 5) pe_int))) (pe_slice sl_tupA (pv 2) (po_some (pv 5)) po_none)))) pss_nil)
      (pss_cons (ps_if (pt_cmpR op_eq (pv 3) pe_int (nomark _)) (pss_one (ps_ret (pe_callTy call_listS (by rfl) mlist (by decide +kernel) (pa_cons (pv 2) pa_nil)))) pss_nil)
      (pss_one (ps_ret (pe_op op_catA (pe_op op_catA (pe_slice sl_tupA (pv 2) po_none (po_some (pv 5))) (pe_tup (pa_cons (pe_call GR hr (by rfl) gR FR.kp bR .nil pass0 (pa_cons (pv 0) (pa_cons (pv 1) (pa_cons (pe_ix ix_tup (pv 2) (pv 5) (fun _ _ => rfl)) pa_nil)))) pa_nil))) (pe_slice sl_tupA (pv 2) (po_some (pe_op op_add (pv 5) pe_int)) po_none))))))))), ?_⟩
    refine ⟨.ref p, rfl, p, 8, m, rfl, hP, by omega, by decide, by decide, fun way H1 f1 P1 w0 w8 => ?_⟩
    have qv1 := qv.fr (FrX.of f1 np)
    have L1 := lN.fr f1 P1
    obtain ⟨o, th, yes, no⟩ := qv1.thg
    obtain ⟨nm, ty, _, _, k3, _⟩ := th.kit (K := K)
    refine ⟨v, rfl, v, .ty "tuple", _, _, _, rfl, .ty "tuple", ty, kit_ty k3, o.isSome, rfl, ite2 (fun e => ?_) (fun e => ?_)⟩
    · exact iteT (then_ok (n := n) b2 b7 P1 (by omega) np L1 qv1 lv fun v' d' G' f' P' h o => q v' d' G' (f1.trans f') (P'.mono (by omega)) h o)
    · cases o with
      | none => exact absurd rfl e
      | some xs =>
      obtain ⟨ds, rfl, da⟩ := yes xs rfl
      obtain ⟨c, rfl, ec⟩ := th.some_tup
      have lx := da.len
      refine ⟨.ref c, rfl, by decide, fun e1 m1 => ?_⟩
      have s1 := same_upd (o := .tup []) m1
      have B : ∀ {D : Ends}, (∀ v' G', Q v' G' → D.rt v' G') → tThen K D [some (.ref p), some (.int b), some (.ref c), some (.int way), none, none] (upd H1 e1 (.tup [])) := fun h => then_ok (n := n) b2 b7 (P1.same s1) (by omega) np (L1.same s1) (qv1.fr (FrX.same s1)) lv fun v' d' G' f' P' h' o => h _ _ (q v' d' G' (f1.trans ((Fr.same s1).trans f')) (P'.mono (by omega)) h' o)
      refine ⟨N, (fun _ => False), _, _, qv1.fr (FrX.same s1), .tup upd_same (fun z => z) .nil, lv.shaped (by omega), by decide +kernel, _, rfl, ite2 (fun z => ?_) (fun z => ?_)⟩
      · exact iteT (B fun _ _ h => h)
      · refine ⟨.int way, rfl, rfl, _, rfl, ite2 (fun z2 => ?_) (fun z2 => ?_)⟩
        · exact B fun _ _ h => h
        · cases n with
          | zero =>
            rcases lv with z | ⟨i, z, _⟩
            · cases z
            · cases z
          | succ n =>
          obtain ⟨ds', ed, l6, all⟩ := lv
          cases ed
          have ne : 0 < xs.length := by
            cases ds with
            | nil => exact absurd (by decide +kernel) z
            | cons d ds => rw [lx]; exact Nat.succ_pos _
          have ec2 := s1 _ _ ec
          have L2 := L1.same s1
          refine ⟨.ref p, rfl, .ref c, rfl, c, xs, rfl, .inr (.inl (.inl ec2)), p, _, m + 1, rfl, P1.same s1, by omega, by omega, by omega, fun at_ H3 f3 P3 a0 a1 => ?_⟩
          have L3 := L2.fr f3 P3
          have nc : ¬ N c := L2.tup ec2
          have T3 : TupD N H3 c ds := ⟨xs, f3 _ _ (fun z => nc (z ▸ np)) ec2, nc, (da.fr (FrX.same s1)).fr (FrX.of f3 np)⟩
          have F3 : Fr p H H3 := f1.trans ((Fr.same s1).trans f3)
          have oq : ∀ {es : List PyData}, (∀ x ∈ es, x ∈ ds) → es.length ≤ 13 → Oq (.tuple es) (n + 1 + 2) (wB (n + 1)) ∧ Oq (.list es) (n + 1 + 2) (wB (n + 1)) := fun h l => by
            have all' : ∀ x ∈ _, Oq x (n + 2) (wB n) := fun x hx => (Lv.oq n (all x (h x hx))).mono (by omega) (by have := wO_lt n; omega)
            exact ⟨Oq.tup all' l, Oq.lst all' l⟩
          have out : ∀ {G : Hp}, Same H3 G → ∀ x, G x = none → ¬ N x := fun s x nx => (L3.same s).out x nx
          refine ⟨.int way, rfl, rfl, _, rfl, ite2 (fun z3 => ?_) (fun z3 => ?_)⟩
          · refine ⟨.ref c, rfl, .int at_, rfl, at_, rfl, ?_⟩
            refine sl_ok (out (Same.refl _)) T3 fun x1 A1 es1 v1 T1 sub1 => ?_
            refine ⟨.ref c, rfl, .int at_, rfl, at_, 1, rfl, rfl, at_ + 1, rfl, ?_⟩
            show tNoPart _ A1 _
            unfold tNoPart
            refine sl_ok (out v1) (T3.fr (FrX.same v1)) fun x4 A4 es4 v4 T4 sub4 => ?_
            have v14 := v1.trans v4
            refine cat_ok (out v14) (T1.fr (FrX.same v4)) T4 (by have := sub1.length_le; have := sub4.length_le; omega) fun x5 A5 v5 T5 => ?_
            have v15 := v14.trans v5
            exact q _ _ _ (F3.trans (Fr.same v15)) ((P3.same v15).mono (by omega)) T5.dq (oq (fun x hx => (List.mem_append.mp hx).elim (fun h => sub1.subset h) (fun h => sub4.subset h)) (by have := sub1.length_le; have := sub4.length_le; rw [List.length_append]; omega)).1
          refine ⟨.int way, rfl, rfl, _, rfl, ite2 (fun z4 => ?_) (fun z4 => ?_)⟩
          · refine ⟨.ref c, rfl, .int at_, rfl, at_, 1, rfl, rfl, at_ + 1, rfl, ?_⟩
            refine sl_ok (out (Same.refl _)) T3 fun x1 A1 es1 v1 T1 sub1 => ?_
            refine ⟨.ref c, rfl, .int at_, rfl, at_, rfl, ?_⟩
            show tNoPart _ A1 _
            unfold tNoPart
            refine sl_ok (out v1) (T3.fr (FrX.same v1)) fun x4 A4 es4 v4 T4 sub4 => ?_
            have v14 := v1.trans v4
            refine cat_ok (out v14) (T1.fr (FrX.same v4)) T4 (by have := sub1.length_le; have := sub4.length_le; omega) fun x5 A5 v5 T5 => ?_
            have v15 := v14.trans v5
            exact q _ _ _ (F3.trans (Fr.same v15)) ((P3.same v15).mono (by omega)) T5.dq (oq (fun x hx => (List.mem_append.mp hx).elim (fun h => sub1.subset h) (fun h => sub4.subset h)) (by have := sub1.length_le; have := sub4.length_le; rw [List.length_append]; omega)).1
          refine ⟨.int way, rfl, rfl, _, rfl, ite2 (fun z5 => ?_) (fun z5 => ?_)⟩
          · obtain ⟨ys, ey, ny, dy⟩ := id T3
            refine ⟨.ref c, rfl, c, ys, rfl, .inl (.inl ey), fun l nl yl => ?_⟩
            have v1 := same_upd (o := .lst ys) nl
            exact q _ _ _ (F3.trans (Fr.same v1)) ((P3.same v1).mono (by omega)) (.lst upd_same (L3.out l nl) yl (dy.fr (FrX.same v1))) (oq (fun x hx => hx) (by omega)).2
          · refine ⟨.ref c, rfl, .int at_, rfl, at_, rfl, ?_⟩
            refine sl_ok (out (Same.refl _)) T3 fun x1 A1 es1 v1 T1 sub1 => ?_
            obtain ⟨ys, ey, ny, dy⟩ := T3.fr (FrX.same v1)
            have ly := dy.len
            have hat : at_.toNat < ys.length := by omega
            obtain ⟨dx, hdx, qx⟩ := dy.at_ (List.getElem?_eq_getElem hat)
            have dxm := List.mem_of_getElem? hdx
            refine ⟨.ref p, rfl, .int b, rfl, .ref c, rfl, .int at_, rfl, c, ys, at_, ys[at_.toNat], rfl, rfl, .inl (.inl ey), at_of (show at_ = (at_.toNat : Int) by omega) (List.getElem?_eq_getElem hat), ?_⟩
            refine ⟨p, b, _, dx, m + 2, N, rfl, b2, b7, P3.same v1, by omega, np, L3.same v1, qx, all dx dxm, fun u du A2 f2 P2 qu ou => ?_⟩
            refine ⟨by show 1 ≤ sizeLine; decide, fun x2 nx2 => ?_⟩
            have v2 := same_upd (o := .tup [u]) nx2
            have LA1 := L3.same v1
            have LA2 := LA1.fr f2 P2
            have LA := LA2.same v2
            have out2 : ∀ {G : Hp}, Same (upd A2 x2 (.tup [u])) G → ∀ x, G x = none → ¬ N x := fun s x nx => (LA.same s).out x nx
            have T2 : TupD N (upd A2 x2 (.tup [u])) x2 [du] := ⟨_, upd_same, LA2.out x2 nx2, .cons (qu.fr (FrX.same v2)) .nil⟩
            have T12 := (T1.fr (FrX.of f2 np)).fr (FrX.same v2)
            have T32 := ((T3.fr (FrX.same v1)).fr (FrX.of f2 np)).fr (FrX.same v2)
            refine cat_ok (out2 (Same.refl _)) T12 T2 (by have := sub1.length_le; rw [List.length_singleton]; omega) fun x3 A3 v3 T3' => ?_
            refine ⟨.ref c, rfl, .int at_, rfl, at_, 1, rfl, rfl, at_ + 1, rfl, ?_⟩
            show tNoPart _ A3 _
            unfold tNoPart
            refine sl_ok (out2 v3) (T32.fr (FrX.same v3)) fun x4 A4 es4 v4 T4 sub4 => ?_
            have v34 := v3.trans v4
            refine cat_ok (out2 v34) (T3'.fr (FrX.same v4)) T4 (by have := sub1.length_le; have := sub4.length_le; rw [List.length_append, List.length_singleton]; omega) fun x5 A5 v5 T5 => ?_
            have v35 := v34.trans v5
            have lo : ∀ x ∈ ds, Oq x (n + 2) (wB n) := fun x hx => (Lv.oq n (all x hx)).mono (by omega) (by have := wO_lt n; omega)
            refine q _ _ _ (F3.trans ((Fr.same v1).trans (f2.trans (Fr.same (v2.trans v35))))) ((P2.same (v2.trans v35)).mono (by omega)) T5.dq (Oq.tup (n := 13) (fun x hx => ?_) (by have := sub1.length_le; have := sub4.length_le; rw [List.length_append, List.length_append, List.length_singleton]; omega))
            rcases List.mem_append.mp hx with hx | hx
            · rcases List.mem_append.mp hx with hx | hx
              · exact lo x (sub1.subset hx)
              · rw [List.mem_singleton.mp hx]; exact ou
            · exact lo x (sub4.subset hx)
theorem ok_bent {f fO fT : Addr} {fd fdO fdT : FuncData} {k : Nat} (F : Fun K "_law_bent" "_law_bent" sBent f fd) (FO : Fun K "_law_of" "_law_of" sOf fO fdO) (FT : Fun K "_law_take" "_law_take" sTake fT fdT) (bR : Binds K fd ["_law_pot_here", "_law_base", "_law_item"] []) (bO : Binds K fdO ["_law_pot_here", "_law_some"] []) (bT : Binds K fdT ["_law_pot_here", "_law_many"] [])
    (gR : mg "_law_bent" = some (.ref f)) (gO : mg "_law_of" = some (.ref fO)) (gT : mg "_law_take" = some (.ref fT)) (ml : mg "len" = none) (mi : mg "isinstance" = none) (mtup : mg "tuple" = none) (mlist : mg "list" = none) : FnOk P w K mg base CX0 (k + 6) f fd ["_law_pot_here", "_law_base", "_law_item"] (spBent 3) := by
  have r0 : FnOk P w K mg base CX0 (k + 2) f fd ["_law_pot_here", "_law_base", "_law_item"] (spRec 0) := ok_bent0 F
  have r1 := bent_step (n := 0) (by decide) F FO FT bR bO bT gR gO gT ml mi mtup mlist r0
  have r2 := bent_step (n := 1) (by decide) F FO FT bR bO bT gR gO gT ml mi mtup mlist (show FnOk P w K mg base CX0 (k + 1 + 2) f fd _ (spRec 1) from r1)
  have r3 := bent_step (n := 2) (by decide) F FO FT bR bO bT gR gO gT ml mi mtup mlist (show FnOk P w K mg base CX0 (k + 2 + 2) f fd _ (spRec 2) from r2)
  exact bent_step (n := 3) (by decide) F FO FT bR bO bT gR gO gT ml mi mtup mlist (show FnOk P w K mg base CX0 (k + 3 + 2) f fd _ (spRec 3) from r3)
end
end C2

namespace C2
set_option Elab.async false
set_option linter.all false
set_option maxRecDepth 100000
set_option maxHeartbeats 1000000
open PySem PySem.Spec PyProof.Rows L2 HT
section
variable {X : Cx} {k : Nat} {f : Addr} {fd : FuncData} {ps ks : List Str} {sp : Sp} {E : XK} {x : Str} {p pos : Pos} {kws : List Keyword} {tk : TA} {g : List Value → List Value → List Value} {gV : List V → List V → List V}
/-! ### a call by names alone -/
theorem pe_callKW (G : FnOk X.prog X.w X.K X.mg X.base CX0 k f fd ps sp) (room : Room k X.A) (glob : Gl X x) (at_ : X.mg x = some (.ref f)) (kept : PySem.W.keepIn X.K (.ref f) = true) (binds : KBinds X.K fd ps ks g gV) (pass : Passes CX0 X E) (named : PK X kws tk)
    (each : (backToKw pos (keywordEach kws X.env)).all (·.1.isSome) = true := by rfl) (names : (backToKw pos (keywordEach kws X.env)).filterMap (·.1) = ks := by rfl) (plainName : (x == ("__debug__" : Str)) = false := by decide)
    (plain : ((backTo pos (starEach [] X.env)).any (·.1) || (backToKw pos (keywordEach kws X.env)).any (·.1.isNone)) = false := by rfl) : PE X (.Call (.Name x p) [] kws pos) (tCallK sp gV E tNil tk) := by
  constructor
  intro pins s σ H Q I h
  have args := named.run pos pins s σ H _ I h
  refine wpAny_Call_Name_kw (ld_glob I glob at_ (PySem.W.callWith_KW0 (h₀ := X.base) I.ok.mod.kin kept each (thn args ?_) plain) plainName)
  rintro ws s2 ⟨zs, H2, I2, rz, q2⟩
  rw [names]
  exact ⟨I2.kIn, run_fnk (us := []) (vs := []) G room binds pass I2 .nil rz q2⟩
end
/-! ### a call where no repr is under way -/
section
variable {X : Cx} {k : Nat} {f : Addr} {fd : FuncData} {ps : List Str} {sp : Sp}
theorem run_fnG {pins : List (Addr × Obj)} {σ : L2.St} {G : Hp} {s : Shared} {Q : VK} {us : List Value} {vs : List V} (F : FnG X.prog X.w X.K X.mg X.base k f fd ps sp) (hgd : X.A.guards = some []) (hr : Room k X.A) (hb : Binds X.K fd ps [])
    (I : Inv X pins σ G s) (r : Vals vs us) (h : sp vs G Q E0) : wpAny (model X.prog X.w) X.A (call (.ref f) us) (EP X pins σ Q) X.xe s := by
  have ln : us.length = ps.length := by rw [← r.length]; exact F.len _ _ _ _ h
  have hb' := hb s us I.kIn (by simpa using ln)
  simp only [List.append_nil] at hb'
  refine wpAny_call (codeAny_mono (F.run X.A X.stack s G ⟨us, []⟩ us vs Q E0 hgd hr I.env0 hb' r h) fun r s' hq => ?_)
  cases r with
  | error err => exact hq.elim
  | ok fl => cases fl with
    | ret u => exact I.after hq
    | next => exact False.elim hq
    | brk => exact False.elim hq
    | cont => exact False.elim hq
theorem pe_callG {x : Str} {e : Expr} {es : List Expr} {t : TA} {p pos : Pos} (F : FnG X.prog X.w X.K X.mg X.base k f fd ps sp) (hgd : X.A.guards = some []) (hr : Room k X.A) (hg : Gl X x) (hm : X.mg x = some (.ref f)) (hk : PySem.W.keepIn X.K (.ref f) = true) (hb : Binds X.K fd ps []) (ha : PA X (e :: es) t)
    (plainName : (x == ("__debug__" : Str)) = false := by decide)
    (plainArgs : starEach (e :: es) X.env = (false, eval e X.env) :: starEach es X.env := by rfl)
    (noStar : (backTo pos (starEach es X.env)).any (·.1) = false := by rfl) :
    PE X (.Call (.Name x p) (e :: es) [] pos) (fun σ G Q => t σ G fun vs G1 => sp vs G1 Q E0) := by
  refine ⟨fun pins s σ G Q I h => wpAny_Call_Name_kw (ld_glob I hg hm ?_ plainName)⟩
  exact PySem.W.callWith_K (h₀ := X.base) I.ok.mod.kin hk (thn (ha.run pos pins s σ G _ I h) fun us s1 ⟨vs, G1, I1, r, q⟩ => ⟨I1.kIn, run_fnG F hgd hr hb I1 r q⟩) plainArgs noStar
end
/-- four values by name, the last parameter's first -/
def sw4 {α : Type} : List α → List α → List α
  | [], [a, b, c, d] => [d, c, b, a]
  | _, _ => []
theorem sw4_vals {vs zs : List V} {us ws : List Value} (r : Vals vs us) (rz : Vals zs ws) : Vals (sw4 vs zs) (sw4 us ws) := by
  cases r with
  | cons _ _ => exact .nil
  | nil => cases rz with
    | nil => exact .nil
    | cons r1 t1 => cases t1 with
      | nil => exact .nil
      | cons r2 t2 => cases t2 with
        | nil => exact .nil
        | cons r3 t3 => cases t3 with
          | nil => exact .nil
          | cons r4 t4 => cases t4 with
            | nil => exact .cons r4 (.cons r3 (.cons r2 (.cons r1 .nil)))
            | cons _ _ => exact .nil
section
variable {P : Program} {w : World} {K : PySem.W.Frag} {mg : Str → Option Value} {base : Heap}
theorem kb_holed {f : Addr} {fd : FuncData} (F : Fun K "is_holed" "is_holed" sHoled f fd) : KBinds K fd ["q", "a", "b", "thing"] ["thing", "b", "a", "q"] sw4 sw4 := by
  obtain ⟨v1, v2, v3, v4, v5, v6, v7, v8, v9, rfl, _, _⟩ := F.ex
  refine ⟨fun s us ws _ hl => ?_, fun r rz => sw4_vals r rz⟩
  match us, ws, hl with
  | [], [a, b, c, d], _ => exact .of_eq rfl
  | [], [], hl => cases hl
  | [], [_], hl => cases hl
  | [], [_, _], hl => cases hl
  | [], [_, _, _], hl => cases hl
  | [], _ :: _ :: _ :: _ :: _ :: _, hl => cases hl
  | _ :: _, _, hl => cases hl
theorem shows_bls {G : Hp} {l : Addr} {B : Bool} (h : G l = some (.lst [.bl B, .bl B])) (y : sysModules ≠ l) : Shows G (.ref l) (PyData.list [.bool B, .bool B]).shown := by
  have dq : Dq (fun _ => False) G (.ref l) (.list [.bool B, .bool B]) := .lst h (fun z => z) y (.cons (.bl B) (.cons (.bl B) .nil))
  have oo : Oq (.list [.bool B, .bool B]) 1 204 := Oq.lst (n := 2) (dp := 0) (wt := 101) (fun d hd => by
    rcases List.mem_cons.mp hd with rfl | hd
    · exact oq_bl B
    · rw [List.mem_singleton.mp hd]; exact oq_bl B) (by show 2 ≤ 2; decide)
  exact Oq.shows' dq oo (by decide) (by decide)
abbrev NRi : List Str := ["_law_base", "_law_wide", "_law_tall", "_law_item", "_law_kept", "_law_due_here", "_law_said"]
theorem scRight : FnScope NRi ["_law_base", "_law_wide", "_law_tall", "_law_item"] (defScope sRight) := ⟨rfl, rfl, rfl, by decide +kernel, rfl, by decide +kernel, by decide +kernel⟩
def spRight : Sp := fun vs H Q _ => ∃ (N : Addr → Prop) (v : V) (d : PyData) (q a b : Int), vs = [.int q, .int a, .int b, v] ∧ Dq N H v d ∧ Oq d 20 300000 ∧ a < 900 ∧ b < 900 ∧ ∀ H', Same H H' → Q (.bl true) H'
theorem ok_right {f fD fS fH fK fT fW fB fU : Addr} {fd fdD fdS fdH fdK fdT fdW fdB fdU : FuncData} (F : Fun K "_law_right" "_law_right" sRight f fd) (FD : Fun K "_law_due" "_law_due" sDue fD fdD) (FS : Fun K "_law_is_so" "_law_is_so" sIsSo fS fdS) (FH : Fun K "is_holed" "is_holed" sHoled fH fdH) (FK : Fun K "is_holed_block" "is_holed_block" sHBlock fK fdK) (FT : Fun K "is_holed_thread" "is_holed_thread" sHThread fT fdT) (FW : Fun K "is_whole" "is_whole" sPWhole fW fdW) (FB : Fun K "is_between" "is_between" sBetween fB fdB) (FU : Fun K "is_tuple_of" "is_tuple_of" sTupOf fU fdU)
    (bD : Binds K fdD ["_law_base", "_law_wide", "_law_tall", "_law_item"] []) (bS : Binds K fdS ["_law_base", "_law_many", "_law_long", "_law_item"] []) (bH : Binds K fdH ["q", "a", "b", "thing"] []) (bK : Binds K fdK ["q", "thing", "many", "length"] []) (bT : Binds K fdT ["q", "thing", "length"] []) (bW : Binds K fdW ["thing"] []) (bB : Binds K fdB ["thing", "least", "most"] []) (bU : Binds K fdU ["thing", "many"] [])
    (gD : mg "_law_due" = some (.ref fD)) (gS : mg "_law_is_so" = some (.ref fS)) (gH : mg "is_holed" = some (.ref fH)) (gK : mg "is_holed_block" = some (.ref fK)) (gT : mg "is_holed_thread" = some (.ref fT)) (gW : mg "is_whole" = some (.ref fW)) (gB : mg "is_between" = some (.ref fB)) (gU : mg "is_tuple_of" = some (.ref fU))
    (mi : mg "isinstance" = none) (mint : mg "int" = none) (mbool : mg "bool" = none) (mtup : mg "tuple" = none) (ml : mg "len" = none) (mall : mg "all" = none) (mrep : mg "repr" = none) : FnG P w K mg base 6 f fd ["_law_base", "_law_wide", "_law_tall", "_law_item"] spRight := by
  have GD : FnOk P w K mg base CX0 2 fD fdD ["_law_base", "_law_wide", "_law_tall", "_law_item"] spHol := ok_due FD FS bS gS mi mint mbool mtup ml
  have GH : FnOk P w K mg base CX0 5 fH fdH ["q", "a", "b", "thing"] spHol := ok_hol FH FK FT FW FB FU bK bT bW bB bU gK gT gW gB gU mi mint mbool mtup ml mall
  have kH := kb_holed FH
  refine okG F scRight (fun vs H Q E h => ?_) (fun cdv A outer s H vs Q E hgd hr h => ?_)
  · obtain ⟨N, v, d, q, a, b, rfl, _⟩ := h
    rfl
  · obtain ⟨N, v, d, q, a, b, rfl, t, o, fa, fb, k⟩ := h
    have nd := scRight.nd
    refine ⟨_, pss_cons (ps_par (i := 4) (j := 5) rfl nd rfl rfl (by decide) rfl rfl (pa_cons (pe_callB (call_reprS hr.units hgd) (by rfl) mrep (by decide +kernel) (pa_cons (pv 3) pa_nil)) (pa_cons (pe_call GD (hr.mono (by decide)) (by rfl) gD FD.kp bD .nil pass0 (pa_cons (pv 0) (pa_cons (pv 1) (pa_cons (pv 2) (pa_cons (pv 3) pa_nil))))) pa_nil)) rfl)
      (pss_cons (ps_set (i := 6) nd rfl (.inl rfl) (pe_lstS (pa_cons (pe_call GH (hr.mono (by decide)) (by rfl) gH FH.kp bH .nil pass0 (pa_cons (pv 0) (pa_cons (pv 1) (pa_cons (pv 2) (pa_cons (pv 3) pa_nil))))) (pa_cons (pe_callKW GH (hr.mono (by decide)) (by rfl) gH FH.kp kH pass0 (pk_cons (pv 3) (pk_cons (pv 2) (pk_cons (pv 1) (pk_cons (pv 0) pk_nil))))) pa_nil))))
      (pss_one (ps_ret (pe_and (pe_cmpR op_eq (pe_callB (call_reprS hr.units hgd) (by rfl) mrep (by decide +kernel) (pa_cons (pv 6) pa_nil)) (pe_callB (call_reprS hr.units hgd) (by rfl) mrep (by decide +kernel) (pa_cons (pe_lstS (pa_cons (pv 5) (pa_cons (pv 5) pa_nil))) pa_nil)) (nomark _)) (pe_one (pe_cmpR op_eq (pe_callB (call_reprS hr.units hgd) (by rfl) mrep (by decide +kernel) (pa_cons (pv 3) pa_nil)) (pv 4) (nomark _))))))), ?_⟩
    refine ⟨v, rfl, v, _, rfl, Oq.shows' t o (by decide) (by decide), ?_⟩
    refine ⟨.int q, rfl, .int a, rfl, .int b, rfl, v, rfl, N, v, d, q, a, b, rfl, t, fa, fb, fun B H1 e1 s1 => ?_⟩
    subst e1
    have t1 := t.fr (FrX.same s1)
    refine ⟨_, _, rfl, .int q, rfl, .int a, rfl, .int b, rfl, v, rfl, N, v, d, q, a, b, rfl, t1, fa, fb, fun B2 H2 e2 s2 => ?_⟩
    subst e2
    have t2 := t1.fr (FrX.same s2)
    refine ⟨v, rfl, .int b, rfl, .int a, rfl, .int q, rfl, N, v, d, q, a, b, rfl, t2, fa, fb, fun B3 H3 e3 s3 => ?_⟩
    subst e3
    have t3 := t2.fr (FrX.same s3)
    refine ⟨by show 2 ≤ sizeLine; decide, fun l1 n1 y1 => ?_⟩
    have s4 := same_upd (o := .lst [.bl (holD q a b d), .bl (holD q a b d)]) n1
    refine ⟨.ref l1, rfl, .ref l1, _, rfl, shows_bls upd_same y1, .bl (holD q a b d), rfl, .bl (holD q a b d), rfl, by show 2 ≤ sizeLine; decide, fun l2 n2 y2 => ?_⟩
    have s5 := same_upd (o := .lst [.bl (holD q a b d), .bl (holD q a b d)]) n2
    refine ⟨.ref l2, _, rfl, shows_bls upd_same y2, ?_⟩
    have s35 := s3.trans (s4.trans s5)
    refine ⟨rfl, _, rfl, ?_⟩
    rw [if_pos (decide_eq_true rfl)]
    refine ⟨v, rfl, v, _, rfl, Oq.shows' (t2.fr (FrX.same s35)) o (by decide) (by decide), .str d.shown, rfl, rfl, ?_⟩
    rw [decide_eq_true rfl]
    exact k _ (s1.trans (s2.trans s35))
end
end C2

namespace C2
set_option Elab.async false
set_option linter.all false
set_option maxRecDepth 100000
set_option maxHeartbeats 1000000
open PySem PySem.Spec PyProof.Rows L2 HT
theorem freshSeq {K : PySem.W.Frag} {p a : Addr} {G G' : Hp} {xs : List V} (h : SqL K G a xs) (n : G p = none) (f : Fr p G G') : SqL K G' a xs := by
  rcases h with (h | ⟨o, h⟩) | h
  · exact .inl (.inl (f _ _ (ne_of_none h n) h))
  · exact .inl (.inr ⟨o, f _ _ (ne_of_none h n) h⟩)
  · exact .inr h
theorem Upto.lf {us : List Int} (h : Upto 6 us) : Lf (us.map V.int) := fun v hv => by
  obtain ⟨i, hi, rfl⟩ := List.mem_map.mp hv
  have := h i hi
  exact .inr ⟨i, rfl, by omega, by omega⟩
theorem Thgs.app {E : Addr → Prop} {H : Hp} {vs ws : List V} {dp wt : Nat} (h : Thgs E H vs dp wt) (t : Thgs E H ws dp wt) : Thgs E H (vs ++ ws) dp wt := fun v hv => (List.mem_append.mp hv).elim (h v) (t v)
theorem Thgs.less {E F : Addr → Prop} {H : Hp} {vs : List V} {dp wt : Nat} (h : Thgs E H vs dp wt) (f : ∀ a, F a → E a) : Thgs F H vs dp wt := fun v hv => by
  obtain ⟨d, a, b⟩ := h v hv
  exact ⟨d, a.less f, b⟩
theorem frp {p : Addr} {H H' : Hp} (f : Fr p H H') : FrX (· = p) H H' := fun b o nb h => f b o nb h
theorem Dq.tupD {E : Addr → Prop} {H : Hp} {a : Addr} {ds : List PyData} (h : Dq E H (.ref a) (.tuple ds)) : TupD E H a ds := by
  cases h with
  | tup e n t => exact ⟨_, e, n, t⟩
/-- threads drawn -/
theorem lc_rows {te : TE} {ta : TA} {σ : L2.St} {H : Hp} {Q : VK} {p : Addr} {sl n len : Nat} {N : Addr → Prop} (hs : ∀ v, wipe ((wipe σ [sl]).set sl (some v)) [sl] = wipe σ [sl]) (hlen : len ≤ 6) (hta : ∀ R : List V → Hp → Prop, R [.int (len : Int)] H → ta σ H R) (hP : PotAt H p n) (np : N p) (lN : LstN N H)
    (hte : ∀ (j : Nat) (G : Hp) (R : VK), j < len → PotAt G p (n + 18 * j) → (∀ (t : Addr) (us : List Int) G', Fr p G G' → PotAt G' p (n + 18 * (j + 1)) → G' t = some (.tup (us.map V.int)) → us.length ≤ 6 → Upto 6 us → R (.ref t) G') → te ((wipe σ [sl]).set sl (some (.int (j : Int)))) G R)
    (k : ∀ D vs ds G, Fr p H G → PotAt G p (n + 18 * len) → H D = none → D ≠ p → G D = some (.lst vs) → DqAll N G vs ds → ds.length ≤ 6 → (∀ x ∈ ds, Lv 1 x) → Q (.ref D) G) : tLc (iRng1 ta) (gName sl) tYes te [sl] σ H Q := by
  refine hta _ ⟨(len : Int), rfl, by omega, by omega, fun D nD => ?_⟩
  have nDp : D ≠ p := hP.ne nD
  refine lc_range (lo := 0) (n := len) (fun j G => Fr p H G ∧ PotAt G p (n + 18 * j) ∧ j ≤ len ∧ ∃ vs ds, G D = some (.lst vs) ∧ DqAll (fun a => N a ∨ a = D) G vs ds ∧ ds.length = j ∧ ∀ x ∈ ds, Lv 1 x) ⟨Fr.new nD, hP.new nD, Nat.zero_le _, [], [], upd_same, .nil, rfl, fun v hv => nomatch hv⟩ ?_ ?_
  · rintro j G hj ⟨fr, pt, _, vs, ds, hD, dv, hl, lv⟩
    rw [Int.zero_add]
    refine ⟨hs _, ?_⟩
    simp only [tYes, ↓reduceIte]
    refine hte j G _ hj pt fun t us G' f P ht lu uu => ?_
    have hD' := f _ _ nDp hD
    have LG : LstN (fun a => N a ∨ a = D) G' := (lN.fr (fr.trans f) P).more hD'
    have fu : FrX (fun a => N a ∨ a = D) G' (upd G' D (.lst (vs ++ [.ref t]))) := fun b' o' nb hb' => by
      rw [upd_ne (fun z => nb (.inr z))]
      exact hb'
    obtain ⟨gs, dg, lg, lvg⟩ := (Upto.lf uu).dq (E := fun a => N a ∨ a = D) (G := G')
    rw [List.length_map] at lg
    refine ⟨vs, hD', Nat.lt_of_lt_of_le (show vs.length < 1000 by have := dv.len; omega) (by decide), fr_lst (fr.trans f) nD, P.at nDp, hj, vs ++ [.ref t], ds ++ [.tuple gs], upd_same, ((dv.fr (FrX.of f (.inl np))).fr fu).app (.cons (Dq.fr fu _ (.tup ht (LG.tup ht) dg)) .nil), by rw [List.length_append, hl]; rfl, lv_snoc lv ⟨gs, rfl, by omega, lvg⟩⟩
  · rintro G ⟨fr, pt, _, vs, ds, hD, dv, hl, lv⟩
    exact k D vs ds G fr pt nD nDp hD (dv.less fun a h => .inl h) (by omega) lv
/-- things drawn -/
theorem lc_thgs {te : TE} {σ : L2.St} {H : Hp} {Q : VK} {p : Addr} {sl n c len dp wt : Nat} {N : Addr → Prop} (hs : ∀ v, wipe ((wipe σ [sl]).set sl (some v)) [sl] = wipe σ [sl]) (hlen : len ≤ 40) (hP : PotAt H p n) (np : N p) (lN : LstN N H)
    (hte : ∀ (j : Nat) (G : Hp) (D : Addr) (R : VK), j < len → H D = none → Fr p H G → PotAt G p (n + c * j) → LstN (fun a => N a ∨ a = D) G → (∀ (v : V) (d : PyData) G', Fr p G G' → PotAt G' p (n + c * (j + 1)) → Dq (fun a => N a ∨ a = D) G' v d → Oq d dp wt → R v G') → te ((wipe σ [sl]).set sl (some (.int (j : Int)))) G R)
    (k : ∀ D vs G, Fr p H G → PotAt G p (n + c * len) → H D = none → D ≠ p → G D = some (.lst vs) → Thgs N G vs dp wt → vs.length = len → Q (.ref D) G) : tLc (iRng1 (tCons (tC (V.int (len : Int))) tNil)) (gName sl) tYes te [sl] σ H Q := by
  refine ⟨(len : Int), rfl, by omega, by omega, fun D nD => ?_⟩
  have nDp : D ≠ p := hP.ne nD
  refine lc_range (lo := 0) (n := len) (fun j G => Fr p H G ∧ PotAt G p (n + c * j) ∧ j ≤ len ∧ ∃ vs, G D = some (.lst vs) ∧ Thgs (fun a => N a ∨ a = D) G vs dp wt ∧ vs.length = j) ⟨Fr.new nD, hP.new nD, Nat.zero_le _, [], upd_same, .nil, rfl⟩ ?_ ?_
  · rintro j G hj ⟨fr, pt, _, vs, hD, tv, hl⟩
    rw [Int.zero_add]
    refine ⟨hs _, ?_⟩
    simp only [tYes, ↓reduceIte]
    refine hte j G D _ hj nD fr pt ((lN.fr fr pt).more hD) fun v d G' f P qv ov => ?_
    have hD' := f _ _ nDp hD
    have fu : FrX (fun a => N a ∨ a = D) G' (upd G' D (.lst (vs ++ [v]))) := fun b' o' nb hb' => by
      rw [upd_ne (fun z => nb (.inr z))]
      exact hb'
    exact ⟨vs, hD', Nat.lt_of_lt_of_le (show vs.length < 1000 by omega) (by decide), fr_lst (fr.trans f) nD, P.at nDp, hj, vs ++ [v], upd_same, ((tv.fr (FrX.of f (.inl np))).fr fu).app (.cons (qv.fr fu) ov .nil), by rw [List.length_append, hl]; rfl⟩
  · rintro G ⟨fr, pt, _, vs, hD, tv, hl⟩
    exact k D vs G fr pt nD nDp hD (tv.less fun a h => .inl h) hl
end C2

namespace C2
set_option Elab.async false
set_option linter.all false
set_option maxRecDepth 100000
set_option maxHeartbeats 1000000
open PySem PySem.Spec PyProof.Rows L2 HT
section
variable {P : Program} {w : World} {K : PySem.W.Frag} {mg : Str → Option Value} {base : Heap}
abbrev NLw : List Str := ["_law_script", "_law_k", "_law_pot_here", "_law_base", "_law_wide", "_law_tall", "_law_rows", "_law_sheet", "_law_holed_here", "_law_some", "_law_item", "_law_c", "_law_d", "_law_j", "_law_i", "_law_turn"]
theorem scLaw : FnScope NLw ["_law_script"] (defScope sLaw) := ⟨rfl, rfl, rfl, by decide +kernel, rfl, by decide +kernel, by decide +kernel⟩
def spLaw (K : PySem.W.Frag) : Sp := fun vs H Q _ => ∃ (a : Addr) (ns : List Int), vs = [.ref a] ∧ SqL K H a (ns.map V.int) ∧ ns.length ≤ 63 ∧ ∀ H', Q (.bl true) H'
def teRo (i : Nat) : TE := tCall spLetters [] E0 (tCons (tVar 2) (tCons (tVar 3) (tCons (tOp (rI0 fun i j => V.int (i + j)) (tVar i) (tC (.int 1))) tNil)))
def teBe (K : PySem.W.Frag) : TE := tCall (spBent 3) [] E0 (tCons (tVar 2) (tCons (tVar 3) (tCons (tCall (spOf K) [] E0 (tCons (tVar 2) (tCons (tLst (tCons (tVar 7) (tCons (tVar 8) tNil))) tNil))) tNil)))
theorem ok_law {f fPo fT fO fLe fHd fS fD fBe fOd fR fH fK fHt fW fB fU : Addr} {fd fdPo fdT fdO fdLe fdHd fdS fdD fdBe fdOd fdR fdH fdK fdHt fdW fdB fdU : FuncData} (F : Fun K "law" "law" sLaw f fd) (FPo : Fun K "_law_pot" "_law_pot" sDraws fPo fdPo) (FT : Fun K "_law_take" "_law_take" sTake fT fdT) (FO : Fun K "_law_of" "_law_of" sOf fO fdO) (FLe : Fun K "_law_letters" "_law_letters" sLetters fLe fdLe) (FHd : Fun K "_law_holed" "_law_holed" sLHoled fHd fdHd) (FS : Fun K "_law_is_so" "_law_is_so" sIsSo fS fdS) (FD : Fun K "_law_due" "_law_due" sDue fD fdD) (FBe : Fun K "_law_bent" "_law_bent" sBent fBe fdBe) (FOd : Fun K "_law_odd" "_law_odd" sOdd fOd fdOd) (FR : Fun K "_law_right" "_law_right" sRight fR fdR) (FH : Fun K "is_holed" "is_holed" sHoled fH fdH) (FK : Fun K "is_holed_block" "is_holed_block" sHBlock fK fdK) (FHt : Fun K "is_holed_thread" "is_holed_thread" sHThread fHt fdHt) (FW : Fun K "is_whole" "is_whole" sPWhole fW fdW) (FB : Fun K "is_between" "is_between" sBetween fB fdB) (FU : Fun K "is_tuple_of" "is_tuple_of" sTupOf fU fdU)
    (bPo : Binds K fdPo ["_law_script", "_law_k"] []) (bT : Binds K fdT ["_law_pot_here", "_law_many"] []) (bO : Binds K fdO ["_law_pot_here", "_law_some"] []) (bLe : Binds K fdLe ["_law_pot_here", "_law_base", "_law_many"] []) (bHd : Binds K fdHd ["_law_pot_here", "_law_sheet", "_law_often"] []) (bS : Binds K fdS ["_law_base", "_law_many", "_law_long", "_law_item"] []) (bD : Binds K fdD ["_law_base", "_law_wide", "_law_tall", "_law_item"] []) (bBe : Binds K fdBe ["_law_pot_here", "_law_base", "_law_item"] []) (bOd : Binds K fdOd ["_law_pot_here"] []) (bR : Binds K fdR ["_law_base", "_law_wide", "_law_tall", "_law_item"] []) (bH : Binds K fdH ["q", "a", "b", "thing"] []) (bK : Binds K fdK ["q", "thing", "many", "length"] []) (bHt : Binds K fdHt ["q", "thing", "length"] []) (bW : Binds K fdW ["thing"] []) (bB : Binds K fdB ["thing", "least", "most"] []) (bU : Binds K fdU ["thing", "many"] [])
    (gPo : mg "_law_pot" = some (.ref fPo)) (gT : mg "_law_take" = some (.ref fT)) (gO : mg "_law_of" = some (.ref fO)) (gLe : mg "_law_letters" = some (.ref fLe)) (gHd : mg "_law_holed" = some (.ref fHd)) (gS : mg "_law_is_so" = some (.ref fS)) (gD : mg "_law_due" = some (.ref fD)) (gBe : mg "_law_bent" = some (.ref fBe)) (gOd : mg "_law_odd" = some (.ref fOd)) (gR : mg "_law_right" = some (.ref fR)) (gH : mg "is_holed" = some (.ref fH)) (gK : mg "is_holed_block" = some (.ref fK)) (gHt : mg "is_holed_thread" = some (.ref fHt)) (gW : mg "is_whole" = some (.ref fW)) (gB : mg "is_between" = some (.ref fB)) (gU : mg "is_tuple_of" = some (.ref fU))
    (mi : mg "isinstance" = none) (mint : mg "int" = none) (mbool : mg "bool" = none) (mtup : mg "tuple" = none) (ml : mg "len" = none) (mall : mg "all" = none) (mr : mg "range" = none) (mmin : mg "min" = none) (mmax : mg "max" = none) (mrep : mg "repr" = none) (ma : mg "abs" = none) (mlist : mg "list" = none) :
    FnG P w K mg base 7 f fd ["_law_script"] (spLaw K) := by
  have GPo : FnOk P w K mg base CX0 1 fPo fdPo ["_law_script", "_law_k"] (spDraws K) := ok_draws FPo ml ma
  have GT : FnOk P w K mg base CX0 1 fT fdT ["_law_pot_here", "_law_many"] spTake := ok_take FT
  have GO : FnOk P w K mg base CX0 2 fO fdO ["_law_pot_here", "_law_some"] (spOf K) := ok_of FO FT bT gT ml
  have GLe : FnOk P w K mg base CX0 2 fLe fdLe ["_law_pot_here", "_law_base", "_law_many"] spLetters := ok_letters FLe FT bT gT mr mtup
  have GHd : FnOk P w K mg base CX0 2 fHd fdHd ["_law_pot_here", "_law_sheet", "_law_often"] spLHoled := ok_lholed FHd FT bT gT mtup
  have GOd : FnOk P w K mg base CX0 3 fOd fdOd ["_law_pot_here"] spOdd := ok_odd FOd FO FT bO bT gO gT ml mr mint
  have GBe : FnOk P w K mg base CX0 6 fBe fdBe ["_law_pot_here", "_law_base", "_law_item"] (spBent 3) := ok_bent FBe FO FT bBe bO bT gBe gO gT ml mi mtup mlist
  have GR : FnG P w K mg base 6 fR fdR ["_law_base", "_law_wide", "_law_tall", "_law_item"] spRight := ok_right FR FD FS FH FK FHt FW FB FU bD bS bH bK bHt bW bB bU gD gS gH gK gHt gW gB gU mi mint mbool mtup ml mall mrep
  refine okG F scLaw (fun vs H Q E h => ?_) (fun cdv A outer s H vs Q E hgd hr h => ?_)
  · obtain ⟨a, ns, rfl, _⟩ := h
    rfl
  · obtain ⟨z, ns, rfl, hS, hlen, q⟩ := h
    have nd := scLaw.nd
    refine ⟨_, pss_cons (ps_for PassesOwn.never rfl (pi_range1 (by rfl) mr (pa_cons (pe_callB (call_max2 rfl) (by rfl) mmax (by decide +kernel) (pa_cons pe_int (pa_cons (pe_callB (call_min2 rfl) (by rfl) mmin (by decide +kernel) (pa_cons pe_int (pa_cons (pe_callB call_len_seq (by rfl) ml PySem.boot_len (pa_cons (pv 0) pa_nil)) pa_nil))) pa_nil))) pa_nil)) (pg_name (i := 1) nd rfl (.inl rfl)) (pss_cons (ps_set (i := 2) nd rfl (.inr rfl) (pe_call GPo (hr.mono (by decide)) (by rfl) gPo FPo.kp bPo .nil pass0 (pa_cons (pv 0) (pa_cons (pv 1) pa_nil))))
      (pss_cons (ps_asg (pe_tup (pa_cons (pe_op op_add pe_int (pe_call GT (hr.mono (by decide)) (by rfl) gT FT.kp bT .nil pass0 (pa_cons (pv 2) (pa_cons pe_int pa_nil)))) (pa_cons (pe_call GT (hr.mono (by decide)) (by rfl) gT FT.kp bT .nil pass0 (pa_cons (pv 2) (pa_cons pe_int pa_nil))) (pa_cons (pe_call GT (hr.mono (by decide)) (by rfl) gT FT.kp bT .nil pass0 (pa_cons (pv 2) (pa_cons pe_int pa_nil))) pa_nil)))) (pg_tup rfl (pgs_cons (pg_name (i := 3) nd rfl (.inr rfl)) (pgs_cons (pg_name (i := 4) nd rfl (.inr rfl)) (pgs_cons (pg_name (i := 5) nd rfl (.inr rfl)) pgs_nil)))))
      (pss_cons (ps_set (i := 6) nd rfl (.inl rfl) (pe_callTy call_tuple_of (by rfl) mtup (by decide +kernel) (pa_cons (pe_lc (own := [("_law_j", 13)]) (g := gName 13) (tt := tYes) (te := teRo 4) rfl nd (pi_range1 (by rfl) mr (pa_cons (pv 5) pa_nil)) (blkOk_by (own := [("_law_j", 13)]) (N := NLw) (sc := defScope sLaw) (by decide +kernel)) (fun _ _ _ _ _ => pg_name (i := 13) nd rfl (.inl rfl)) (fun _ _ _ _ _ => pts_nil) (fun _ _ _ _ _ => (pe_call GLe (hr.mono (by decide)) (by rfl) gLe FLe.kp bLe .nil pass0 (pa_cons (pv 2) (pa_cons (pv 3) (pa_cons (pe_op op_add (pv 4) pe_int) pa_nil)))))) pa_nil)))
      (pss_cons (ps_set (i := 7) nd rfl (.inr rfl) (pe_tup (pa_cons (pv 6) (pa_cons (pe_callTy call_tuple_of (by rfl) mtup (by decide +kernel) (pa_cons (pe_lc (own := [("_law_i", 14)]) (g := gName 14) (tt := tYes) (te := teRo 5) rfl nd (pi_range1 (by rfl) mr (pa_cons (pv 4) pa_nil)) (blkOk_by (own := [("_law_i", 14)]) (N := NLw) (sc := defScope sLaw) (by decide +kernel)) (fun _ _ _ _ _ => pg_name (i := 14) nd rfl (.inl rfl)) (fun _ _ _ _ _ => pts_nil) (fun _ _ _ _ _ => (pe_call GLe (hr.mono (by decide)) (by rfl) gLe FLe.kp bLe .nil pass0 (pa_cons (pv 2) (pa_cons (pv 3) (pa_cons (pe_op op_add (pv 5) pe_int) pa_nil)))))) pa_nil)) pa_nil))))
      (pss_cons (ps_set (i := 8) nd rfl (.inr rfl) (pe_call GHd (hr.mono (by decide)) (by rfl) gHd FHd.kp bHd .nil pass0 (pa_cons (pv 2) (pa_cons (pv 7) (pa_cons (pe_op op_add pe_int (pe_call GT (hr.mono (by decide)) (by rfl) gT FT.kp bT .nil pass0 (pa_cons (pv 2) (pa_cons pe_int pa_nil)))) pa_nil)))))
      (pss_cons (ps_set (i := 9) nd rfl (.inl rfl) (pe_lst (pa_cons (pv 7) (pa_cons (pv 8) (pa_cons (pe_call GOd (hr.mono (by decide)) (by rfl) gOd FOd.kp bOd .nil pass0 (pa_cons (pv 2) pa_nil)) (pa_cons (pe_call GOd (hr.mono (by decide)) (by rfl) gOd FOd.kp bOd .nil pass0 (pa_cons (pv 2) pa_nil)) (pa_cons (pe_callTy call_listS (by rfl) mlist (by decide +kernel) (pa_cons (pv 8) pa_nil)) (pa_cons (pe_backT (pv 8)) (pa_cons (pe_op op_catA (pv 8) (pe_tup (pa_cons (pe_tup pa_nil) pa_nil))) pa_nil)))))))))
      (pss_cons (ps_set (i := 9) nd rfl (.inl rfl) (pe_op op_cat (pv 9) (pe_lc (own := [("_law_turn", 15)]) (g := gName 15) (tt := tYes) (te := teBe K) rfl nd (pi_range1 (by rfl) mr (pa_cons pe_int pa_nil)) (blkOk_by (own := [("_law_turn", 15)]) (N := NLw) (sc := defScope sLaw) (by decide +kernel)) (fun _ _ _ _ _ => pg_name (i := 15) nd rfl (.inl rfl)) (fun _ _ _ _ _ => pts_nil) (fun _ _ _ _ _ => (pe_call GBe (hr.mono (by decide)) (by rfl) gBe FBe.kp bBe .nil pass0 (pa_cons (pv 2) (pa_cons (pv 3) (pa_cons (pe_call GO (hr.mono (by decide)) (by rfl) gO FO.kp bO .nil pass0 (pa_cons (pv 2) (pa_cons (pe_lst (pa_cons (pv 7) (pa_cons (pv 8) pa_nil))) pa_nil))) pa_nil))))))))
      (pss_cons (ps_for PassesOwn.never rfl (pi_list (pv 9)) (pg_name (i := 10) nd rfl (.inl rfl)) (pss_one (ps_if (pt_not (pt_val (pe_callG GR hgd hr (by rfl) gR FR.kp bR (pa_cons (pv 3) (pa_cons (pv 4) (pa_cons (pv 5) (pa_cons (pv 10) pa_nil))))))) (pss_one (ps_ret pe_bl)) pss_nil)))
      (pss_cons (ps_for PassesOwn.never rfl (pi_tup (pe_tup (pa_cons (pe_tup (pa_cons (pe_op op_add (pv 4) pe_int) (pa_cons (pv 5) pa_nil))) (pa_cons (pe_tup (pa_cons (pv 4) (pa_cons (pe_op op_add (pv 5) pe_int) pa_nil))) (pa_cons (pe_tup (pa_cons (pv 5) (pa_cons (pv 4) pa_nil))) (pa_cons (pe_tup (pa_cons (pe_callB (call_max2 rfl) (by rfl) mmax (by decide +kernel) (pa_cons pe_int (pa_cons (pe_op op_sub (pv 4) pe_int) pa_nil))) (pa_cons (pv 5) pa_nil))) pa_nil)))))) (pg_tup rfl (pgs_cons (pg_name (i := 11) nd rfl (.inl rfl)) (pgs_cons (pg_name (i := 12) nd rfl (.inl rfl)) pgs_nil))) (pss_one (ps_if (pt_not (pt_val (pe_callG GR hgd hr (by rfl) gR FR.kp bR (pa_cons (pv 3) (pa_cons (pv 11) (pa_cons (pv 12) (pa_cons (pv 8) pa_nil))))))) (pss_one (ps_ret pe_bl)) pss_nil)))
      (pss_one (ps_if (pt_not (pt_val (pe_callG GR hgd hr (by rfl) gR FR.kp bR (pa_cons pe_int (pa_cons (pv 4) (pa_cons (pv 5) (pa_cons (pv 7) pa_nil))))))) (pss_one (ps_ret pe_bl)) pss_nil))))))))))))
      (pss_one (ps_ret pe_bl)), ?_⟩
    refine ⟨.ref z, rfl, z, _, rfl, .inl hS, 3, _, rfl, 1, _, rfl, _, rfl, ?_, ?_, ?_⟩
    · split <;> split <;> omega
    · rw [List.length_map]
      split <;> split <;> omega
    · refine for_range (lo := 0) (n := _) (fun i σ G => SqL K G z (ns.map V.int) ∧ ∃ y1 y2 y3 y4 y5 y6 y7 y8 y9 y10 y11 y12, σ = [some (.ref z), y1, y2, y3, y4, y5, y6, y7, y8, y9, y10, y11, y12, none, none, none]) ⟨hS, _, _, _, _, _, _, _, _, _, _, _, _, rfl⟩ ?_ ?_
      · rintro i σ G hi ⟨hSG, y1, y2, y3, y4, y5, y6, y7, y8, y9, y10, y11, y12, rfl⟩
        have hi3 : i < 3 := by
          rw [List.length_map] at hi
          revert hi
          split <;> split <;> omega
        rw [Int.zero_add]
        refine ⟨.ref z, rfl, .int (i : Int), rfl, z, ns, i, rfl, hSG, by omega, fun H1 p sm1 np hP1 => ?_⟩
        refine ⟨.ref p, rfl, p, 6, _, rfl, hP1, by decide, by decide, by decide, fun d1 H2 f2 P2 d10 d11 => ⟨2, d1, rfl, rfl, ?_⟩⟩
        refine ⟨.ref p, rfl, p, 5, _, rfl, P2, by decide, by decide, by decide, fun d2 H3 f3 P3 d20 d21 => ?_⟩
        refine ⟨.ref p, rfl, p, 5, _, rfl, P3, by decide, by decide, by decide, fun d3 H4 f4 P4 d30 d31 => ?_⟩
        refine ⟨by show 3 ≤ sizeLine; decide, fun u nu => ⟨u, _, rfl, .inl (.inl upd_same), rfl, _, _, rfl, _, _, rfl, _, _, rfl, rfl, ?_⟩⟩
        have su := same_upd (o := .tup [.int (2 + d1), .int d2, .int d3]) nu
        have P5 := P4.same su
        have F5 : Fr p G _ := (Fr.same sm1).trans (f2.trans (f3.trans (f4.trans (Fr.same su))))
        generalize upd H4 u (.tup [.int (2 + d1), .int d2, .int d3]) = H5 at P5 F5 ⊢
        dsimp only [List.set]
        have q0 : 2 ≤ 2 + d1 := by omega
        have q1 : 2 + d1 ≤ 7 := by omega
        generalize 2 + d1 = q' at q0 q1 ⊢
        obtain ⟨qb, rfl⟩ : ∃ qb : Nat, q' = (qb : Int) := ⟨q'.toNat, by omega⟩
        obtain ⟨wd, rfl⟩ : ∃ wd : Nat, d2 = (wd : Int) := ⟨d2.toNat, by omega⟩
        obtain ⟨tl, rfl⟩ : ∃ tl : Nat, d3 = (tl : Int) := ⟨d3.toNat, by omega⟩
        have wd4 : wd ≤ 4 := by omega
        have tl4 : tl ≤ 4 := by omega
        refine seqAsg (tcb_run ?_)
        refine lc_rows (te := teRo 4) (sl := 13) (len := tl) (n := 3) (p := p) (N := (· = p)) (fun v => rfl) (by omega) (fun R h => ⟨.int (tl : Int), rfl, h⟩) P5 rfl (lstOne P5) (fun j G1 R hj pt kk => ⟨.ref p, rfl, .int (qb : Int), rfl, .int (wd : Int), rfl, (wd : Int), 1, rfl, rfl, p, qb, wd + 1, 3 + 18 * j, rfl, by omega, by omega, by omega, pt, by omega, fun t us G' f P ht lu uu => kk t us G' f (P.mono (by omega)) ht (by omega) uu⟩) fun D vs ds H6 f6 P6 nD nDp hD dv ld lv => ?_
        refine ⟨D, _, rfl, .inl ⟨.inl (.inl hD), fun r nr => ?_⟩⟩
        have sr := same_upd (o := .tup vs) nr
        have P7 := (P6.same sr).mono (show _ ≤ 200 by omega)
        have F7 : Fr p G _ := F5.trans (f6.trans (Fr.same sr))
        have qr : Dq (· = p) _ (.ref r) (.tuple ds) := .tup upd_same ((lstOne P6).out r nr) (dv.fr (FrX.same sr))
        generalize upd H6 r (.tup vs) = H7 at P7 F7 qr ⊢
        refine ⟨.ref r, rfl, ?_⟩
        refine tcons_run (tcb_run ?_)
        refine lc_rows (te := teRo 5) (sl := 14) (len := wd) (n := 200) (p := p) (N := (· = p)) (fun v => rfl) (by omega) (fun R h => ⟨.int (wd : Int), rfl, h⟩) P7 rfl (lstOne P7) (fun j G1 R hj pt kk => ⟨.ref p, rfl, .int (qb : Int), rfl, .int (tl : Int), rfl, (tl : Int), 1, rfl, rfl, p, qb, tl + 1, 200 + 18 * j, rfl, by omega, by omega, by omega, pt, by omega, fun t us G' f P ht lu uu => kk t us G' f (P.mono (by omega)) ht (by omega) uu⟩) fun D2 vs2 ds2 H8 f8 P8 nD2 nDp2 hD2 dv2 ld2 lv2 => ?_
        refine ⟨D2, _, rfl, .inl ⟨.inl (.inl hD2), fun c nc => ⟨by show 2 ≤ sizeLine; decide, fun sh nsh => ?_⟩⟩⟩
        have sc := same_upd (o := .tup vs2) nc
        have ss := same_upd (o := .tup [.ref r, .ref c]) nsh
        have P9 := ((P8.same sc).same ss).mono (show _ ≤ 400 by omega)
        have F9 : Fr p G _ := F7.trans (f8.trans (Fr.same (sc.trans ss)))
        have qc : Dq (· = p) _ (.ref c) (.tuple ds2) := .tup (ss _ _ upd_same) ((lstOne P8).out c nc) (dv2.fr (FrX.same (sc.trans ss)))
        have qS : Dq (· = p) _ (.ref sh) (.tuple [.tuple ds, .tuple ds2]) := .tup upd_same ((lstOne (P8.same sc)).out sh nsh) (.cons ((qr.fr (frp f8)).fr (FrX.same (sc.trans ss))) (.cons qc .nil))
        have lS : Lv 3 (.tuple [.tuple ds, .tuple ds2]) := ⟨_, rfl, by show 2 ≤ 6; decide, fun x hx => by
          rcases List.mem_cons.mp hx with rfl | hx
          · exact ⟨_, rfl, ld, lv⟩
          · rw [List.mem_singleton.mp hx]; exact ⟨_, rfl, ld2, lv2⟩⟩
        generalize upd (upd H8 c (.tup vs2)) sh (.tup [.ref r, .ref c]) = H9 at P9 F9 qS ⊢
        generalize PyData.tuple [.tuple ds, .tuple ds2] = dS at qS lS
        dsimp only [List.set]
        refine ⟨.ref p, rfl, .ref sh, rfl, .ref p, rfl, p, 3, 400, rfl, P9, by decide, by decide, by decide, fun d4 H10 f10 P10 d40 d41 => ⟨2, d4, rfl, rfl, p, sh, dS, 401, 2 + d4, (· = p), rfl, by omega, by omega, P10, by decide, rfl, lstOne P10, qS.fr (frp f10), lS, fun ho dH H11 f11 P11 qH lH => ?_⟩⟩
        have qS1 := (qS.fr (frp f10)).fr (frp f11)
        have F11 : Fr p G _ := F9.trans (f10.trans f11)
        refine ⟨.ref sh, rfl, .ref ho, rfl, .ref p, rfl, p, 617, (· = p), rfl, P11, by decide, rfl, lstOne P11, fun v1 e1 H12 f12 P12 q1' o1 => ?_⟩
        refine ⟨.ref p, rfl, p, 633, (· = p), rfl, P12, by decide, rfl, lstOne P12, fun v2 e2 H13 f13 P13 q2' o2 => ?_⟩
        obtain ⟨dsH, rfl, lH6, allH⟩ := id lH
        have qH2 := ((qH.fr (frp f12)).fr (frp f13))
        have TH := qH2.tupD
        obtain ⟨hs, eh, nh, dh⟩ := id TH
        have L13 := lstOne P13
        have F13 : Fr p G _ := F11.trans (f12.trans f13)
        have qS2 := (qS1.fr (frp f12)).fr (frp f13)
        have q12 := q1'.fr (frp f13)
        refine ⟨.ref ho, rfl, ho, hs, rfl, .inl (.inl eh), fun l1 n1 y1 => ?_⟩
        have t1 := same_upd (o := .lst hs) n1
        refine tcons_run (back_ok (L13.same t1).out (TH.fr (FrX.same t1)) (fun R h => ⟨.ref ho, rfl, h⟩) fun c1 H14 t2 T14 => ?_)
        have t12 := t1.trans t2
        refine ⟨.ref ho, rfl, by decide, fun a1 m1 => ⟨by show 1 ≤ sizeLine; decide, fun a2 m2 => ?_⟩⟩
        have t3 := same_upd (o := .tup []) m1
        have t4 := same_upd (o := .tup [.ref a1]) m2
        have t14 := t12.trans (t3.trans t4)
        have Ta : TupD (· = p) _ a2 [.tuple []] := ⟨_, upd_same, (L13.same (t12.trans t3)).out a2 m2, .cons (.tup (t4 _ _ upd_same) ((L13.same t12).out a1 m1) .nil) .nil⟩
        refine cat_ok (L13.same t14).out (TH.fr (FrX.same t14)) Ta (by rw [List.length_singleton]; omega) fun c2 H15 t5 T15 => ⟨by show 7 ≤ sizeLine; decide, fun l9 n9 => ?_⟩
        have t6 := same_upd (o := .lst [.ref sh, .ref ho, v1, v2, .ref l1, .ref c1, .ref c2]) n9
        have t16 := t14.trans (t5.trans t6)
        have lOH := Lv.oq 3 lH
        have up : ∀ {d : PyData} {dp wt : Nat}, Oq d dp wt → dp ≤ 20 → wt ≤ 300000 → Oq d 20 300000 := fun h a b => h.mono a b
        have oL : Oq (.list dsH) 20 300000 := up (Oq.lst (n := 6) (fun x hx => Lv.oq 2 (allH x hx)) lH6) (by decide) (by decide)
        have oR : Oq (.tuple dsH.reverse) 20 300000 := up (Oq.tup (n := 6) (fun x hx => Lv.oq 2 (allH x (List.mem_reverse.mp hx))) (by rw [List.length_reverse]; exact lH6)) (by decide) (by decide)
        have oC : Oq (.tuple (dsH ++ [.tuple []])) 20 300000 := up (Oq.tup (n := 7) (dp := 2) (wt := wO 2) (fun x hx => by
          rcases List.mem_append.mp hx with hx | hx
          · exact Lv.oq 2 (allH x hx)
          · rw [List.mem_singleton.mp hx]
            exact (Oq.tup (ds := []) (dp := 0) (wt := 101) (n := 0) (fun d hd => nomatch hd) (by decide)).mono (by decide) (by decide)) (by rw [List.length_append, List.length_singleton]; omega)) (by decide) (by decide)
        have T7 : Thgs (· = p) _ [.ref sh, .ref ho, v1, v2, .ref l1, .ref c1, .ref c2] 20 300000 :=
          .cons (qS2.fr (FrX.same t16)) (up (Lv.oq 3 lS) (by decide) (by decide)) (.cons (qH2.fr (FrX.same t16)) (up lOH (by decide) (by decide)) (.cons (q12.fr (FrX.same t16)) (up o1 (by decide) (by decide)) (.cons (q2'.fr (FrX.same t16)) (up o2 (by decide) (by decide))
            (.cons (.lst ((t2.trans (t3.trans (t4.trans (t5.trans t6)))) _ _ upd_same) (L13.out l1 n1) y1 (dh.fr (FrX.same t16))) oL
              (.cons ((T14.fr (FrX.same (t3.trans (t4.trans (t5.trans t6))))).dq) oR (.cons (T15.fr (FrX.same t6)).dq oC .nil))))))
        have P16 := P13.same t16
        have F16 : Fr p G _ := F13.trans (Fr.same t16)
        have qS3 := qS2.fr (FrX.same t16)
        have qH3 := qH2.fr (FrX.same t16)
        have h9 := upd_same (H := H15) (a := l9) (o := .lst [.ref sh, .ref ho, v1, v2, .ref l1, .ref c1, .ref c2])
        generalize upd H15 l9 (.lst [.ref sh, .ref ho, v1, v2, .ref l1, .ref c1, .ref c2]) = H16 at P16 F16 qS3 qH3 T7 h9 ⊢
        have len7 : [V.ref sh, .ref ho, v1, v2, .ref l1, .ref c1, .ref c2].length = 7 := rfl
        generalize [V.ref sh, .ref ho, v1, v2, .ref l1, .ref c1, .ref c2] = items at T7 h9 len7
        dsimp only [List.set]
        refine ⟨.ref l9, rfl, ?_⟩
        refine lc_thgs (te := teBe K) (sl := 15) (n := 649) (c := 20) (len := 12) (dp := 5) (wt := wB 3) (p := p) (N := (· = p)) (fun v => rfl) (by decide) P16 rfl (lstOne P16) (fun j G1 D1 R hj nD1 fr1 pt1 lM kk => ?_) fun D3 bs H17 f17 P17 nD3 nD3p hD3 tb lb => ?_
        · refine ⟨.ref p, rfl, .int (qb : Int), rfl, .ref p, rfl, .ref sh, rfl, .ref ho, rfl, by show 2 ≤ sizeLine; decide, fun l3 n3 => ?_⟩
          have g1 := same_upd (o := .lst [.ref sh, .ref ho]) n3
          have fM : FrX (fun a => a = p ∨ a = D1) H16 G1 := FrX.of fr1 (.inl rfl)
          have two : ∀ v ∈ [V.ref sh, .ref ho], ∃ d, Dq (fun a => a = p ∨ a = D1) (upd G1 l3 (.lst [.ref sh, .ref ho])) v d ∧ Lv 3 d := fun v hv => by
            rcases List.mem_cons.mp hv with rfl | hv
            · exact ⟨_, ((qS3.more nD1).fr fM).fr (FrX.same g1), lS⟩
            · rw [List.mem_singleton.mp hv]
              exact ⟨_, ((qH3.more nD1).fr fM).fr (FrX.same g1), lH⟩
          refine ⟨p, l3, _, 649 + 20 * j, rfl, pt1.same g1, by omega, pt1.ne n3, .inl (.inl upd_same), by show 0 < 2; decide, by show 2 < 1000000; decide, fun v G' f' P' mem => ?_⟩
          obtain ⟨dv', qv', lv'⟩ := two v mem
          refine ⟨p, (qb : Int), v, dv', 649 + 20 * j + 1, (fun a => a = p ∨ a = D1), rfl, by omega, by omega, P', by omega, .inl rfl, (lM.same g1).fr f' P', qv'.fr (FrX.of f' (.inl rfl)), lv', fun v' d' H' f'' P'' q'' o'' => kk v' d' H' ((Fr.same g1).trans (f'.trans f'')) (P''.mono (by omega)) q'' o''⟩
        have h9' := f17 _ _ (fun z => by
          obtain ⟨g, cc, u', e, _⟩ := P16
          rw [z, e] at h9
          have := congrArg List.length (show ([V.int g, V.int cc, V.int u'] : List V) = items by cases h9; rfl)
          rw [len7] at this
          exact absurd this (by show ¬ 3 = 7; decide)) h9
        refine ⟨l9, D3, _, bs, rfl, rfl, h9', hD3, Nat.le_trans (show items.length + bs.length ≤ 1000 by omega) (by decide), fun l10 n10 => ?_⟩
        have g10 := same_upd (o := .lst (items ++ bs)) n10
        have f18 : Fr p H16 (upd H17 l10 (.lst (items ++ bs))) := f17.trans (Fr.same g10)
        have T18 : Thgs (· = p) (upd H17 l10 (.lst (items ++ bs))) (items ++ bs) 20 300000 := (T7.fr (frp f18)).app (fun v hv => by
          obtain ⟨d, a, b⟩ := tb v hv
          exact ⟨d, a.fr (FrX.same g10), b.mono (by decide) (by decide)⟩)
        have h10 := upd_same (H := H17) (a := l10) (o := .lst (items ++ bs))
        have F18 : Fr p G _ := F16.trans f18
        have qS4 := qS3.fr (frp f18)
        have qH4 := qH3.fr (frp f18)
        generalize upd H17 l10 (.lst (items ++ bs)) = H18 at T18 h10 F18 qS4 qH4 ⊢
        generalize items ++ bs = v18 at T18 h10
        refine ⟨.ref l10, rfl, l10, rfl, ⟨_, .inl (.inl h10)⟩, ?_⟩
        refine for_list (xs := v18) (fun e σ G' => Same H18 G' ∧ ∃ y10 y11 y12, σ = [some (.ref z), some (.int (i : Int)), some (.ref p), some (.int (qb : Int)), some (.int (wd : Int)), some (.int (tl : Int)), some (.ref r), some (.ref sh), some (.ref ho), some (.ref l10), y10, y11, y12, none, none, none]) ⟨Same.refl _, _, _, _, rfl⟩ (fun e σ G' _ h => .inl (.inl (h.1 _ _ h10))) ?_ ?_
        · rintro e x σ G' hx ⟨sm, y10, y11, y12, rfl⟩
          obtain ⟨dx, qx, ox⟩ := T18 x (List.mem_of_getElem? hx)
          refine ⟨.int (qb : Int), rfl, .int (wd : Int), rfl, .int (tl : Int), rfl, x, rfl, (· = p), x, dx, (qb : Int), (wd : Int), (tl : Int), rfl, qx.fr (FrX.same sm), ox, by omega, by omega, fun H' s' => ⟨true, rfl, ?_⟩⟩
          exact iteF ⟨sm.trans s', _, _, _, rfl⟩
        · rintro σ G' ⟨sm, y10, y11, y12, rfl⟩
          refine ⟨.int (wd : Int), rfl, (wd : Int), 1, rfl, rfl, .int (tl : Int), rfl, by show 2 ≤ sizeLine; decide, fun a1 m1 => ?_⟩
          refine ⟨.int (wd : Int), rfl, .int (tl : Int), rfl, (tl : Int), 1, rfl, rfl, by show 2 ≤ sizeLine; decide, fun a2 m2 => ?_⟩
          refine ⟨.int (tl : Int), rfl, .int (wd : Int), rfl, by show 2 ≤ sizeLine; decide, fun a3 m3 => ?_⟩
          refine ⟨.int (wd : Int), rfl, (wd : Int), 1, rfl, rfl, 0, (wd : Int) - 1, rfl, .int (tl : Int), rfl, by show 2 ≤ sizeLine; decide, fun a4 m4 => ?_⟩
          refine ⟨by show 4 ≤ sizeLine; decide, fun a5 m5 => ?_⟩
          have mx : (if (wd : Int) - 1 > 0 then (wd : Int) - 1 else 0) < 900 := by split <;> omega
          generalize (if (wd : Int) - 1 > 0 then (wd : Int) - 1 else 0) = mxv at mx m5 ⊢
          have r1 := same_upd (o := .tup [.int ((wd : Int) + 1), .int (tl : Int)]) m1
          have r2 := same_upd (o := .tup [.int (wd : Int), .int ((tl : Int) + 1)]) m2
          have r3 := same_upd (o := .tup [.int (tl : Int), .int (wd : Int)]) m3
          have r4 := same_upd (o := .tup [.int mxv, .int (tl : Int)]) m4
          have r5 := same_upd (o := .tup [.ref a1, .ref a2, .ref a3, .ref a4]) m5
          have r25 := r2.trans (r3.trans (r4.trans r5))
          have r15 := sm.trans (r1.trans r25)
          have prs : ∀ v ∈ [V.ref a1, .ref a2, .ref a3, .ref a4], ∃ a c d, v = .ref a ∧ (upd _ a5 (.tup [.ref a1, .ref a2, .ref a3, .ref a4]) : Hp) a = some (.tup [.int c, .int d]) ∧ c < 900 ∧ d < 900 := fun v hv => by
            rcases List.mem_cons.mp hv with rfl | hv
            · exact ⟨a1, _, _, rfl, r25 _ _ upd_same, by omega, by omega⟩
            rcases List.mem_cons.mp hv with rfl | hv
            · exact ⟨a2, _, _, rfl, (r3.trans (r4.trans r5)) _ _ upd_same, by omega, by omega⟩
            rcases List.mem_cons.mp hv with rfl | hv
            · exact ⟨a3, _, _, rfl, (r4.trans r5) _ _ upd_same, by omega, by omega⟩
            · rw [List.mem_singleton.mp hv]
              exact ⟨a4, _, _, rfl, r5 _ _ upd_same, by omega, by omega⟩
          have h5 := r5
          refine ⟨a5, rfl, ⟨_, .inl (.inl upd_same)⟩, ?_⟩
          have e5 := upd_same (H := upd (upd (upd (upd G' a1 (.tup [.int ((wd : Int) + 1), .int (tl : Int)])) a2 (.tup [.int (wd : Int), .int ((tl : Int) + 1)])) a3 (.tup [.int (tl : Int), .int (wd : Int)])) a4 (.tup [.int mxv, .int (tl : Int)])) (a := a5) (o := .tup [.ref a1, .ref a2, .ref a3, .ref a4])
          generalize upd (upd (upd (upd (upd G' a1 (.tup [.int ((wd : Int) + 1), .int (tl : Int)])) a2 (.tup [.int (wd : Int), .int ((tl : Int) + 1)])) a3 (.tup [.int (tl : Int), .int (wd : Int)])) a4 (.tup [.int mxv, .int (tl : Int)])) a5 (.tup [.ref a1, .ref a2, .ref a3, .ref a4]) = H19 at r15 prs e5 ⊢
          generalize [V.ref a1, .ref a2, .ref a3, .ref a4] = v19 at prs e5
          refine for_tup (xs := v19) (fun e σ G' => Same H19 G' ∧ ∃ y10 y11 y12, σ = [some (.ref z), some (.int (i : Int)), some (.ref p), some (.int (qb : Int)), some (.int (wd : Int)), some (.int (tl : Int)), some (.ref r), some (.ref sh), some (.ref ho), some (.ref l10), y10, y11, y12, none, none, none]) ⟨Same.refl _, _, _, _, rfl⟩ (fun e σ G' _ h => .inl (.inl (h.1 _ _ e5))) ?_ ?_
          · rintro e x σ G2 hx ⟨sm2, y10, y11, y12, rfl⟩
            obtain ⟨ax, cc, dd, rfl, hax, c9, d9⟩ := prs x (List.mem_of_getElem? hx)
            refine ⟨ax, _, rfl, .inl (.inl (sm2 _ _ hax)), rfl, _, _, rfl, _, _, rfl, rfl, ?_⟩
            refine ⟨.int (qb : Int), rfl, .int cc, rfl, .int dd, rfl, .ref ho, rfl, (· = p), .ref ho, _, (qb : Int), cc, dd, rfl, qH4.fr (FrX.same (r15.trans sm2)), lOH.mono (by decide) (by decide), by omega, by omega, fun H' s' => ⟨true, rfl, ?_⟩⟩
            exact iteF ⟨sm2.trans s', _, _, _, rfl⟩
          · rintro σ G2 ⟨sm2, y10, y11, y12, rfl⟩
            refine ⟨.int (wd : Int), rfl, .int (tl : Int), rfl, .ref sh, rfl, (· = p), .ref sh, dS, 2, (wd : Int), (tl : Int), rfl, qS4.fr (FrX.same (r15.trans sm2)), (Lv.oq 3 lS).mono (by decide) (by decide), by omega, by omega, fun H' s' => ⟨true, rfl, ?_⟩⟩
            refine iteF ⟨?_, _, _, _, _, _, _, _, _, _, _, _, _, rfl⟩
            exact freshSeq hSG np (F18.trans (Fr.same (r15.trans (sm2.trans s'))))
      · rintro σ G ⟨hSG, y1, y2, y3, y4, y5, y6, y7, y8, y9, y10, y11, y12, rfl⟩
        exact q _
end
end C2

namespace C2
set_option Elab.async false
set_option linter.all false
set_option maxRecDepth 100000
set_option maxHeartbeats 4000000
open PySem PySem.Spec PyProof.Rows L2
theorem all_mk {l : PySem.W.OpenLaw} {w : World} {K : PySem.W.Frag} {h : Heap} {mg : Str → Option Value} {fa f1 f2 f3 f4 f5 f6 f7 f8 f9 f10 f11 f12 f13 f14 f15 f16 f17 : Addr} (X : K.In h) (G : h.Ns mainGlobals mg) (hfa : mg "law" = some (.ref fa))
    {od1 an1 od2 an2 od3 an3 od4 an4 od5 an5 od6 an6 od7 an7 od8 an8 od9 an9 od10 an10 od11 an11 od12 an12 od13 an13 od14 an14 od15 an15 od16 an16 od17 an17 : Option Addr} {sl1 sl2 sl3 sl4 sl5 sl6 sl7 sl8 sl9 sl10 sl11 sl12 sl13 sl14 sl15 sl16 sl17 : Array (Option Value)}
    {oc1 kV1 dc1 pm1 cd1 ct1 oc2 kV2 dc2 pm2 cd2 ct2 oc3 kV3 dc3 pm3 cd3 ct3 oc4 kV4 dc4 pm4 cd4 ct4 oc5 kV5 dc5 pm5 cd5 ct5 oc6 kV6 dc6 pm6 cd6 ct6 oc7 kV7 dc7 pm7 cd7 ct7 oc8 kV8 dc8 pm8 cd8 ct8 oc9 kV9 dc9 pm9 cd9 ct9 oc10 kV10 dc10 pm10 cd10 ct10 oc11 kV11 dc11 pm11 cd11 ct11 oc12 kV12 dc12 pm12 cd12 ct12 oc13 kV13 dc13 pm13 cd13 ct13 oc14 kV14 dc14 pm14 cd14 ct14 oc15 kV15 dc15 pm15 cd15 ct15 oc16 kV16 dc16 pm16 cd16 ct16 oc17 kV17 dc17 pm17 cd17 ct17 : Value}
    (a1 : PySem.W.nsIn K mainGlobals "_law_pot" = some (some (.ref f1))) (l1 : K.lookup f1 = some ⟨oc1, od1, .func (PySem.W.fnOf "_law_pot" "_law_pot" (defArgs sDraws) (defBody sDraws) (defScope sDraws) .none kV1 dc1 pm1 an1 cd1 ct1), sl1⟩) (c1 : PySem.W.codeIn K cd1 "_law_pot" = true) (k1 : PySem.W.keepIn K (.ref f1) = true)
    (a2 : PySem.W.nsIn K mainGlobals "_law_take" = some (some (.ref f2))) (l2 : K.lookup f2 = some ⟨oc2, od2, .func (PySem.W.fnOf "_law_take" "_law_take" (defArgs sTake) (defBody sTake) (defScope sTake) .none kV2 dc2 pm2 an2 cd2 ct2), sl2⟩) (c2 : PySem.W.codeIn K cd2 "_law_take" = true) (k2 : PySem.W.keepIn K (.ref f2) = true)
    (a3 : PySem.W.nsIn K mainGlobals "_law_of" = some (some (.ref f3))) (l3 : K.lookup f3 = some ⟨oc3, od3, .func (PySem.W.fnOf "_law_of" "_law_of" (defArgs sOf) (defBody sOf) (defScope sOf) .none kV3 dc3 pm3 an3 cd3 ct3), sl3⟩) (c3 : PySem.W.codeIn K cd3 "_law_of" = true) (k3 : PySem.W.keepIn K (.ref f3) = true)
    (a4 : PySem.W.nsIn K mainGlobals "_law_letters" = some (some (.ref f4))) (l4 : K.lookup f4 = some ⟨oc4, od4, .func (PySem.W.fnOf "_law_letters" "_law_letters" (defArgs sLetters) (defBody sLetters) (defScope sLetters) .none kV4 dc4 pm4 an4 cd4 ct4), sl4⟩) (c4 : PySem.W.codeIn K cd4 "_law_letters" = true) (k4 : PySem.W.keepIn K (.ref f4) = true)
    (a5 : PySem.W.nsIn K mainGlobals "_law_holed" = some (some (.ref f5))) (l5 : K.lookup f5 = some ⟨oc5, od5, .func (PySem.W.fnOf "_law_holed" "_law_holed" (defArgs sLHoled) (defBody sLHoled) (defScope sLHoled) .none kV5 dc5 pm5 an5 cd5 ct5), sl5⟩) (c5 : PySem.W.codeIn K cd5 "_law_holed" = true) (k5 : PySem.W.keepIn K (.ref f5) = true)
    (a6 : PySem.W.nsIn K mainGlobals "_law_is_so" = some (some (.ref f6))) (l6 : K.lookup f6 = some ⟨oc6, od6, .func (PySem.W.fnOf "_law_is_so" "_law_is_so" (defArgs sIsSo) (defBody sIsSo) (defScope sIsSo) .none kV6 dc6 pm6 an6 cd6 ct6), sl6⟩) (c6 : PySem.W.codeIn K cd6 "_law_is_so" = true) (k6 : PySem.W.keepIn K (.ref f6) = true)
    (a7 : PySem.W.nsIn K mainGlobals "_law_due" = some (some (.ref f7))) (l7 : K.lookup f7 = some ⟨oc7, od7, .func (PySem.W.fnOf "_law_due" "_law_due" (defArgs sDue) (defBody sDue) (defScope sDue) .none kV7 dc7 pm7 an7 cd7 ct7), sl7⟩) (c7 : PySem.W.codeIn K cd7 "_law_due" = true) (k7 : PySem.W.keepIn K (.ref f7) = true)
    (a8 : PySem.W.nsIn K mainGlobals "_law_bent" = some (some (.ref f8))) (l8 : K.lookup f8 = some ⟨oc8, od8, .func (PySem.W.fnOf "_law_bent" "_law_bent" (defArgs sBent) (defBody sBent) (defScope sBent) .none kV8 dc8 pm8 an8 cd8 ct8), sl8⟩) (c8 : PySem.W.codeIn K cd8 "_law_bent" = true) (k8 : PySem.W.keepIn K (.ref f8) = true)
    (a9 : PySem.W.nsIn K mainGlobals "_law_odd" = some (some (.ref f9))) (l9 : K.lookup f9 = some ⟨oc9, od9, .func (PySem.W.fnOf "_law_odd" "_law_odd" (defArgs sOdd) (defBody sOdd) (defScope sOdd) .none kV9 dc9 pm9 an9 cd9 ct9), sl9⟩) (c9 : PySem.W.codeIn K cd9 "_law_odd" = true) (k9 : PySem.W.keepIn K (.ref f9) = true)
    (a10 : PySem.W.nsIn K mainGlobals "_law_right" = some (some (.ref f10))) (l10 : K.lookup f10 = some ⟨oc10, od10, .func (PySem.W.fnOf "_law_right" "_law_right" (defArgs sRight) (defBody sRight) (defScope sRight) .none kV10 dc10 pm10 an10 cd10 ct10), sl10⟩) (c10 : PySem.W.codeIn K cd10 "_law_right" = true) (k10 : PySem.W.keepIn K (.ref f10) = true)
    (a11 : PySem.W.nsIn K mainGlobals "is_holed" = some (some (.ref f11))) (l11 : K.lookup f11 = some ⟨oc11, od11, .func (PySem.W.fnOf "is_holed" "is_holed" (defArgs sHoled) (defBody sHoled) (defScope sHoled) .none kV11 dc11 pm11 an11 cd11 ct11), sl11⟩) (c11 : PySem.W.codeIn K cd11 "is_holed" = true) (k11 : PySem.W.keepIn K (.ref f11) = true)
    (a12 : PySem.W.nsIn K mainGlobals "is_holed_block" = some (some (.ref f12))) (l12 : K.lookup f12 = some ⟨oc12, od12, .func (PySem.W.fnOf "is_holed_block" "is_holed_block" (defArgs sHBlock) (defBody sHBlock) (defScope sHBlock) .none kV12 dc12 pm12 an12 cd12 ct12), sl12⟩) (c12 : PySem.W.codeIn K cd12 "is_holed_block" = true) (k12 : PySem.W.keepIn K (.ref f12) = true)
    (a13 : PySem.W.nsIn K mainGlobals "is_holed_thread" = some (some (.ref f13))) (l13 : K.lookup f13 = some ⟨oc13, od13, .func (PySem.W.fnOf "is_holed_thread" "is_holed_thread" (defArgs sHThread) (defBody sHThread) (defScope sHThread) .none kV13 dc13 pm13 an13 cd13 ct13), sl13⟩) (c13 : PySem.W.codeIn K cd13 "is_holed_thread" = true) (k13 : PySem.W.keepIn K (.ref f13) = true)
    (a14 : PySem.W.nsIn K mainGlobals "is_whole" = some (some (.ref f14))) (l14 : K.lookup f14 = some ⟨oc14, od14, .func (PySem.W.fnOf "is_whole" "is_whole" (defArgs sPWhole) (defBody sPWhole) (defScope sPWhole) .none kV14 dc14 pm14 an14 cd14 ct14), sl14⟩) (c14 : PySem.W.codeIn K cd14 "is_whole" = true) (k14 : PySem.W.keepIn K (.ref f14) = true)
    (a15 : PySem.W.nsIn K mainGlobals "is_between" = some (some (.ref f15))) (l15 : K.lookup f15 = some ⟨oc15, od15, .func (PySem.W.fnOf "is_between" "is_between" (defArgs sBetween) (defBody sBetween) (defScope sBetween) .none kV15 dc15 pm15 an15 cd15 ct15), sl15⟩) (c15 : PySem.W.codeIn K cd15 "is_between" = true) (k15 : PySem.W.keepIn K (.ref f15) = true)
    (a16 : PySem.W.nsIn K mainGlobals "is_tuple_of" = some (some (.ref f16))) (l16 : K.lookup f16 = some ⟨oc16, od16, .func (PySem.W.fnOf "is_tuple_of" "is_tuple_of" (defArgs sTupOf) (defBody sTupOf) (defScope sTupOf) .none kV16 dc16 pm16 an16 cd16 ct16), sl16⟩) (c16 : PySem.W.codeIn K cd16 "is_tuple_of" = true) (k16 : PySem.W.keepIn K (.ref f16) = true)
    (a17 : PySem.W.nsIn K mainGlobals "law" = some (some (.ref f17))) (l17 : K.lookup f17 = some ⟨oc17, od17, .func (PySem.W.fnOf "law" "law" (defArgs sLaw) (defBody sLaw) (defScope sLaw) .none kV17 dc17 pm17 an17 cd17 ct17), sl17⟩) (c17 : PySem.W.codeIn K cd17 "law" = true) (k17 : PySem.W.keepIn K (.ref f17) = true)
    (z1 : PySem.W.nsIn K mainGlobals "isinstance" = some none) (z2 : PySem.W.nsIn K mainGlobals "int" = some none) (z3 : PySem.W.nsIn K mainGlobals "bool" = some none) (z4 : PySem.W.nsIn K mainGlobals "tuple" = some none) (z5 : PySem.W.nsIn K mainGlobals "len" = some none) (z6 : PySem.W.nsIn K mainGlobals "all" = some none) (z7 : PySem.W.nsIn K mainGlobals "range" = some none) (z8 : PySem.W.nsIn K mainGlobals "min" = some none) (z9 : PySem.W.nsIn K mainGlobals "max" = some none) (z10 : PySem.W.nsIn K mainGlobals "repr" = some none) (z11 : PySem.W.nsIn K mainGlobals "abs" = some none) (z12 : PySem.W.nsIn K mainGlobals "list" = some none) :
    ∃ fd : FuncData, (∀ (s : Shared) (v : Value), BindsTo s fd ⟨[v], []⟩ [("_law_script", v)]) ∧ ∀ base : Heap, K.In base → base.Ns mainGlobals mg → FnG l.prog w K mg base 7 fa fd ["_law_script"] (spLaw K) := by
  have e := hfa.symm.trans (PySem.W.mg_of X G a17)
  cases e
  have F1 := fun_mk (st := sDraws) l1 c1 k1
  have F2 := fun_mk (st := sTake) l2 c2 k2
  have F3 := fun_mk (st := sOf) l3 c3 k3
  have F4 := fun_mk (st := sLetters) l4 c4 k4
  have F5 := fun_mk (st := sLHoled) l5 c5 k5
  have F6 := fun_mk (st := sIsSo) l6 c6 k6
  have F7 := fun_mk (st := sDue) l7 c7 k7
  have F8 := fun_mk (st := sBent) l8 c8 k8
  have F9 := fun_mk (st := sOdd) l9 c9 k9
  have F10 := fun_mk (st := sRight) l10 c10 k10
  have F11 := fun_mk (st := sHoled) l11 c11 k11
  have F12 := fun_mk (st := sHBlock) l12 c12 k12
  have F13 := fun_mk (st := sHThread) l13 c13 k13
  have F14 := fun_mk (st := sPWhole) l14 c14 k14
  have F15 := fun_mk (st := sBetween) l15 c15 k15
  have F16 := fun_mk (st := sTupOf) l16 c16 k16
  have F17 := fun_mk (st := sLaw) l17 c17 k17
  have b1 := F1.binds (ps := ["_law_script", "_law_k"]) fun _ _ _ _ _ _ us hl => match us, hl with | [_, _], _ => rfl
  have b2 := F2.binds (ps := ["_law_pot_here", "_law_many"]) fun _ _ _ _ _ _ us hl => match us, hl with | [_, _], _ => rfl
  have b3 := F3.binds (ps := ["_law_pot_here", "_law_some"]) fun _ _ _ _ _ _ us hl => match us, hl with | [_, _], _ => rfl
  have b4 := F4.binds (ps := ["_law_pot_here", "_law_base", "_law_many"]) fun _ _ _ _ _ _ us hl => match us, hl with | [_, _, _], _ => rfl
  have b5 := F5.binds (ps := ["_law_pot_here", "_law_sheet", "_law_often"]) fun _ _ _ _ _ _ us hl => match us, hl with | [_, _, _], _ => rfl
  have b6 := F6.binds (ps := ["_law_base", "_law_many", "_law_long", "_law_item"]) fun _ _ _ _ _ _ us hl => match us, hl with | [_, _, _, _], _ => rfl
  have b7 := F7.binds (ps := ["_law_base", "_law_wide", "_law_tall", "_law_item"]) fun _ _ _ _ _ _ us hl => match us, hl with | [_, _, _, _], _ => rfl
  have b8 := F8.binds (ps := ["_law_pot_here", "_law_base", "_law_item"]) fun _ _ _ _ _ _ us hl => match us, hl with | [_, _, _], _ => rfl
  have b9 := F9.binds (ps := ["_law_pot_here"]) fun _ _ _ _ _ _ us hl => match us, hl with | [_], _ => rfl
  have b10 := F10.binds (ps := ["_law_base", "_law_wide", "_law_tall", "_law_item"]) fun _ _ _ _ _ _ us hl => match us, hl with | [_, _, _, _], _ => rfl
  have b11 := F11.binds (ps := ["q", "a", "b", "thing"]) fun _ _ _ _ _ _ us hl => match us, hl with | [_, _, _, _], _ => rfl
  have b12 := F12.binds (ps := ["q", "thing", "many", "length"]) fun _ _ _ _ _ _ us hl => match us, hl with | [_, _, _, _], _ => rfl
  have b13 := F13.binds (ps := ["q", "thing", "length"]) fun _ _ _ _ _ _ us hl => match us, hl with | [_, _, _], _ => rfl
  have b14 := F14.binds (ps := ["thing"]) fun _ _ _ _ _ _ us hl => match us, hl with | [_], _ => rfl
  have b15 := F15.binds (ps := ["thing", "least", "most"]) fun _ _ _ _ _ _ us hl => match us, hl with | [_, _, _], _ => rfl
  have b16 := F16.binds (ps := ["thing", "many"]) fun _ _ _ _ _ _ us hl => match us, hl with | [_, _], _ => rfl
  exact ⟨PySem.W.fnOf "law" "law" (defArgs sLaw) (defBody sLaw) (defScope sLaw) .none kV17 dc17 pm17 an17 cd17 ct17, fun s v => .of_eq rfl, fun base _ _ =>
    ok_law F17 F1 F2 F3 F4 F5 F6 F7 F8 F9 F10 F11 F12 F13 F14 F15 F16 b1 b2 b3 b4 b5 b6 b7 b8 b9 b10 b11 b12 b13 b14 b15 b16 (PySem.W.mg_of X G a1) (PySem.W.mg_of X G a2) (PySem.W.mg_of X G a3) (PySem.W.mg_of X G a4) (PySem.W.mg_of X G a5) (PySem.W.mg_of X G a6) (PySem.W.mg_of X G a7) (PySem.W.mg_of X G a8) (PySem.W.mg_of X G a9) (PySem.W.mg_of X G a10) (PySem.W.mg_of X G a11) (PySem.W.mg_of X G a12) (PySem.W.mg_of X G a13) (PySem.W.mg_of X G a14) (PySem.W.mg_of X G a15) (PySem.W.mg_of X G a16) (PySem.W.mg_none_of X G z1) (PySem.W.mg_none_of X G z2) (PySem.W.mg_none_of X G z3) (PySem.W.mg_none_of X G z4) (PySem.W.mg_none_of X G z5) (PySem.W.mg_none_of X G z6) (PySem.W.mg_none_of X G z7) (PySem.W.mg_none_of X G z8) (PySem.W.mg_none_of X G z9) (PySem.W.mg_none_of X G z10) (PySem.W.mg_none_of X G z11) (PySem.W.mg_none_of X G z12)⟩
end C2
open PySem PySem.W PyProof.Rows
set_option maxRecDepth 100000 in
set_option maxHeartbeats 0 in
theorem PySem.Challenge.cw_cornertold_k53_holed_sheets_of_anything_holds : PySem.Challenge.rw_cornertold_k53_holed_sheets_of_anything.Holds := by
  w_on; o_law; k_head; (case hw => w_witness2)
  k_fill
  refine C2.walkG (l := PySem.Challenge.rw_cornertold_k53_holed_sheets_of_anything) (n := 63) (k := 7) (x := "_law_script") (sp := C2.spLaw) rfl (by decide) rfl ⟨rfl, by decide, by decide⟩ (fun w h Y => PySem.W.kIn_of Y) ?F (fun _ _ a ns hl hS => ⟨a, ns, rfl, hS, hl, fun _ => rfl⟩)
  case F =>
    intro w mg fa h KX G hmg
    refine' C2.all_mk KX G hmg ?a1 ?l1 ?c1 ?k1 ?a2 ?l2 ?c2 ?k2 ?a3 ?l3 ?c3 ?k3 ?a4 ?l4 ?c4 ?k4 ?a5 ?l5 ?c5 ?k5 ?a6 ?l6 ?c6 ?k6 ?a7 ?l7 ?c7 ?k7 ?a8 ?l8 ?c8 ?k8 ?a9 ?l9 ?c9 ?k9 ?a10 ?l10 ?c10 ?k10 ?a11 ?l11 ?c11 ?k11 ?a12 ?l12 ?c12 ?k12 ?a13 ?l13 ?c13 ?k13 ?a14 ?l14 ?c14 ?k14 ?a15 ?l15 ?c15 ?k15 ?a16 ?l16 ?c16 ?k16 ?a17 ?l17 ?c17 ?k17 ?z1 ?z2 ?z3 ?z4 ?z5 ?z6 ?z7 ?z8 ?z9 ?z10 ?z11 ?z12
    (case a1 => k_is); (case l1 => k_is); (case c1 => k_is); (case k1 => k_is); (case a2 => k_is); (case l2 => k_is); (case c2 => k_is); (case k2 => k_is)
    (case a3 => k_is); (case l3 => k_is); (case c3 => k_is); (case k3 => k_is); (case a4 => k_is); (case l4 => k_is); (case c4 => k_is); (case k4 => k_is)
    (case a5 => k_is); (case l5 => k_is); (case c5 => k_is); (case k5 => k_is); (case a6 => k_is); (case l6 => k_is); (case c6 => k_is); (case k6 => k_is)
    (case a7 => k_is); (case l7 => k_is); (case c7 => k_is); (case k7 => k_is); (case a8 => k_is); (case l8 => k_is); (case c8 => k_is); (case k8 => k_is)
    (case a9 => k_is); (case l9 => k_is); (case c9 => k_is); (case k9 => k_is); (case a10 => k_is); (case l10 => k_is); (case c10 => k_is); (case k10 => k_is)
    (case a11 => k_is); (case l11 => k_is); (case c11 => k_is); (case k11 => k_is); (case a12 => k_is); (case l12 => k_is); (case c12 => k_is); (case k12 => k_is)
    (case a13 => k_is); (case l13 => k_is); (case c13 => k_is); (case k13 => k_is); (case a14 => k_is); (case l14 => k_is); (case c14 => k_is); (case k14 => k_is)
    (case a15 => k_is); (case l15 => k_is); (case c15 => k_is); (case k15 => k_is); (case a16 => k_is); (case l16 => k_is); (case c16 => k_is); (case k16 => k_is)
    (case a17 => k_is); (case l17 => k_is); (case c17 => k_is); (case k17 => k_is); (case z1 => k_is); (case z2 => k_is); (case z3 => k_is); (case z4 => k_is)
    (case z5 => k_is); (case z6 => k_is); (case z7 => k_is); (case z8 => k_is); (case z9 => k_is); (case z10 => k_is); (case z11 => k_is); (case z12 => k_is)
