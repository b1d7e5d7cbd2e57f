import PyProof.Rows.All
import Wide.All
import OpenK.AllK
import Wide.FinOn
import HandS.ForMost
import HandS.Wide
import HandS.Style
import HandS.Comp
import HandS.Walk
import HandS.Zip
import KE.GoesMore
import KE.GoesEnum
import HandS.Conv
import HandS.IsInst
import HandS.TupAny
import PyProof.CallFns
import HandS.Deep
import KE.KRevSl
import HandS.Dict
import KE.DataFind
import PySem.Challenge.RW_cornertold_k29_orders_looked_at
set_option Elab.async false
set_option linter.all false
set_option maxRecDepth 100000
namespace C2
set_option Elab.async false
set_option linter.all false
set_option maxRecDepth 100000
set_option maxHeartbeats 4000000
open PySem PySem.Spec PyProof.Rows L2
def topS (i : Nat) : Stmt := PySem.Challenge.pw_cornertold_k29_orders_looked_at.main.body.getD i (.Pass ⟨0, 0, 0, 0⟩)
abbrev sPWhole : Stmt := topS 1
abbrev sBetween : Stmt := topS 2
abbrev sTupOf : Stmt := topS 3
abbrev sComes : Stmt := topS 5
abbrev sSizeP : Stmt := topS 6
abbrev sHas : Stmt := topS 7
abbrev sLegs : Stmt := topS 9
abbrev sCross : Stmt := topS 10
abbrev sWanted : Stmt := topS 13
abbrev sShows : Stmt := topS 14
abbrev sDraws : Stmt := topS 16
abbrev sTake : Stmt := topS 17
abbrev sOf : Stmt := topS 18
abbrev sMixed : Stmt := topS 19
abbrev sPick : Stmt := topS 20
abbrev sSize : Stmt := topS 21
abbrev sLComes : Stmt := topS 22
abbrev sWants : Stmt := topS 23
abbrev sIsOrd : Stmt := topS 24
abbrev sOrder : Stmt := topS 25
abbrev sBent : Stmt := topS 26
abbrev sLaw : Stmt := topS 27
theorem scDraws : FnScope ["_law_script", "_law_k", "_law_cell", "_law_great"] ["_law_script", "_law_k"] (defScope sDraws) := ⟨rfl, rfl, rfl, by decide +kernel, rfl, by decide +kernel, by decide +kernel⟩
theorem scOf : FnScope ["_law_pot_here", "_law_some"] ["_law_pot_here", "_law_some"] (defScope sOf) := ⟨rfl, rfl, rfl, by decide +kernel, rfl, by decide +kernel, by decide +kernel⟩
theorem scTake : FnScope ["_law_pot_here", "_law_many", "_law_digit", "_law_turn", "_law_prime", "_law_drawn"] ["_law_pot_here", "_law_many"] (defScope sTake) := ⟨rfl, rfl, rfl, by decide +kernel, rfl, by decide +kernel, by decide +kernel⟩

/-- all that was tracked, but what stands at p, is as it was -/
def Fr (p : Addr) (H H' : Hp) : Prop := ∀ b o, b ≠ p → H b = some o → H' b = some o
theorem Fr.refl (p : Addr) (H : Hp) : Fr p H H := fun _ _ _ h => h
theorem Fr.trans {p : Addr} {H H1 H2 : Hp} (a : Fr p H H1) (b : Fr p H1 H2) : Fr p H H2 := fun c o n h => b c o n (a c o n h)
theorem Fr.same {p : Addr} {H H1 : Hp} (a : Same H H1) : Fr p H H1 := fun c o _ h => a c o h
theorem Fr.upd {p : Addr} {H : Hp} {o : HO} : Fr p H (upd H p o) := fun c u n h => by rw [upd_ne n]; exact h
theorem Fr.new {p q : Addr} {H : Hp} {o : HO} (h : H q = none) : Fr p H (L2.upd H q o) := fun c u n e => by rw [upd_ne (ne_of_none e h)]; exact e
theorem Fr.free {p : Addr} {H H' : Hp} (e : Fr p H H') {l : Addr} (n : l ≠ p) (h : H' l = none) : H l = none := by
  cases q : H l with
  | none => rfl
  | some o => rw [e l o n q] at h; cases h
theorem same_upd {H : Hp} {p : Addr} {o : HO} (h : H p = none) : Same H (upd H p o) := fun b x e => by
  rw [upd_ne (ne_of_none e h)]
  exact e
def PotAt (H : Hp) (p : Addr) (n : Nat) : Prop := ∃ g c t : Int, H p = some (.lst [.int g, .int c, .int t]) ∧ 0 ≤ t ∧ t ≤ (n : Int)
section
variable {P : Program} {w : World} {K : PySem.W.Frag} {mg : Str → Option Value} {base : Heap}
/-! ### draws -/
def spDraws (K : PySem.W.Frag) : Sp := fun vs H Q _ => ∃ (a : Addr) (ns : List Int) (k : Nat), vs = [.ref a, .int (k : Int)] ∧ SqL K H a (ns.map V.int) ∧ k ≤ 1000 ∧
  ∀ H' p, Same H H' → H p = none → PotAt H' p 0 → Q (.ref p) H'
theorem pow_ok1 : CPow 10 18 := ⟨by decide, by decide, by decide⟩
theorem pow_ok2 : CPow 10 60 := ⟨by decide, by decide, by decide⟩
theorem wide1 : CMulW ((10 : Int) ^ (60 : Int).toNat) ((10 : Int) ^ (60 : Int).toNat) := wide_mul (a := 200) (b := 200) (by decide +kernel) (by decide +kernel) (by decide) (by decide) (by decide)
theorem wide2 : CMulW ((10 : Int) ^ (60 : Int).toNat * (10 : Int) ^ (60 : Int).toNat) ((10 : Int) ^ (60 : Int).toNat) := wide_mul (a := 400) (b := 200) (by decide +kernel) (by decide +kernel) (by decide) (by decide) (by decide)
theorem wide3 : (0 : Int) < (10 : Int) ^ (60 : Int).toNat * (10 : Int) ^ (60 : Int).toNat * (10 : Int) ^ (60 : Int).toNat := by decide +kernel
theorem fin_draws {H : Hp} {Q : VK} {a : Addr} {k : Nat} (q : ∀ (H' : Hp) (p : Addr), Same H H' → H p = none → PotAt H' p 0 → Q (V.ref p) H') (hk : k ≤ 1000) (cell great : Int) :
    tRet (tLst (tCons (tVar 3) (tCons (tOp (rI (fun x j => 0 < j) fun i j => V.int (i % j)) (tOp (rI0 fun i j => V.int (i + j)) (tOp (rI0 fun i j => V.int (i + j))
      (tOp (rI CMul fun i j => V.int (i * j)) (tOp (rI (fun x j => 0 < j) fun i j => V.int (i % j)) (tVar 2) (tC (V.int 2305843009213693951))) (tC (V.int 1000033)))
      (tOp (rI CMul fun i j => V.int (i * j)) (tC (V.int 7919)) (tVar 1))) (tC (V.int 41))) (tC (V.int 2305843009213693921))) (tCons (tC (V.int 0)) tNil))))
      { nx := fun x H' => Q V.non H', rt := Q } [some (V.ref a), some (V.int (k : Int)), some (V.int cell), some (V.int great)] H := by
  refine ⟨.int great, rfl, .int cell, rfl, cell, 2305843009213693951, rfl, rfl, (by show (0 : Int) < 2305843009213693951; decide), _, 1000033, rfl, rfl, .inr ⟨by decide, by decide⟩, .int (k : Int), rfl, 7919, (k : Int), rfl, rfl, .inl ⟨by decide, by decide⟩, _, _, rfl, rfl, _, 41, rfl, rfl, _, _, rfl, rfl, (by show (0 : Int) < 2305843009213693921; decide), by show 3 ≤ sizeLine; decide, fun p np => ?_⟩
  exact q _ p (same_upd np) np ⟨_, _, _, upd_same, Int.le_refl _, Int.le_refl _⟩
theorem ok_draws {f : Addr} {fd : FuncData} {k : Nat} (F : Fun K "_law_pot" "_law_pot" sDraws f fd) (ml : mg "len" = none) (ma : mg "abs" = none) : FnOk P w K mg base CX0 (k + 1) f fd ["_law_script", "_law_k"] (spDraws K) := by
  refine F.ok scDraws (fun vs H Q E h => ?_) (fun cdv A outer s H vs Q E hr h => ?_)
  · obtain ⟨a, ns, k, rfl, _⟩ := h
    rfl
  · obtain ⟨a, ns, k, rfl, hS, hk, q⟩ := h
    refine ⟨_, pss_cons (ps_set (i := 2) scDraws.nd rfl (.inl rfl) (pe_ifExp (pt_cmpR op_lt (pv 1) (pe_callB call_len_seq (by rfl) ml PySem.boot_len (pa_cons (pv 0) pa_nil)) (nomark _))
          (pe_ix ix_list (pv 0) (pv 1) (fun _ _ => rfl)) (pe_op op_add (pe_op op_mul pe_int (pv 1)) pe_int)))
      (pss_cons (ps_set (i := 3) scDraws.nd rfl (.inl rfl) (pe_ifExp (pt_cmpR op_ge (pe_callB call_abs (by rfl) ma (by decide +kernel) (pa_cons (pv 2) pa_nil)) (pe_op op_pow pe_int pe_int) (nomark _))
          (pe_op op_mod (pe_callB call_abs (by rfl) ma (by decide +kernel) (pa_cons (pv 2) pa_nil)) (pe_op op_mulW (pe_op op_mulW (pe_op op_pow pe_int pe_int) (pe_op op_pow pe_int pe_int)) (pe_op op_pow pe_int pe_int))) pe_int))
      (pss_one (ps_ret (pe_lst (pa_cons (pv 3) (pa_cons (pe_op op_mod (pe_op op_add (pe_op op_add (pe_op op_mul (pe_op op_mod (pv 2) pe_int) pe_int) (pe_op op_mul pe_int (pv 1))) pe_int) pe_int) (pa_cons pe_int pa_nil))))))), ?_⟩
    refine ⟨.int (k : Int), rfl, .ref a, rfl, a, _, rfl, .inl hS, _, _, rfl, rfl, _, rfl, ite2 (fun e => ?_) (fun e => ?_)⟩
    · have e1 : k < ns.length := by
        have := of_decide_eq_true e
        rw [List.length_map] at this
        omega
      refine ⟨.ref a, rfl, .int (k : Int), rfl, a, _, _, .int ns[k], rfl, rfl, hS, atI_nat (by rw [List.getElem?_map, List.getElem?_eq_getElem e1]; rfl), ?_⟩
      generalize ns[k] = cell
      refine ⟨.int cell, rfl, cell, rfl, 10, 18, rfl, rfl, pow_ok1, _, _, rfl, rfl, _, rfl, ite2 (fun e => ?_) (fun e => ?_)⟩
      · refine ⟨.int cell, rfl, cell, rfl, 10, 60, rfl, rfl, pow_ok2, 10, 60, rfl, rfl, pow_ok2, _, _, rfl, rfl, wide1, 10, 60, rfl, rfl, pow_ok2, _, _, rfl, rfl, wide2, _, _, rfl, rfl, wide3, ?_⟩
        exact fin_draws q hk _ _
      · exact fin_draws q hk _ _
    · refine ⟨.int (k : Int), rfl, 5, (k : Int), rfl, rfl, .inl ⟨by decide, by decide⟩, _, 3, rfl, rfl, ?_⟩
      refine ⟨_, rfl, _, rfl, 10, 18, rfl, rfl, pow_ok1, _, _, rfl, rfl, _, rfl, ite2 (fun e => ?_) (fun e => ?_)⟩
      · refine ⟨_, rfl, _, rfl, 10, 60, rfl, rfl, pow_ok2, 10, 60, rfl, rfl, pow_ok2, _, _, rfl, rfl, wide1, 10, 60, rfl, rfl, pow_ok2, _, _, rfl, rfl, wide2, _, _, rfl, rfl, wide3, ?_⟩
        exact fin_draws q hk _ _
      · exact fin_draws q hk _ _
end
end C2

namespace C2
set_option Elab.async false
set_option linter.all false
set_option maxRecDepth 100000
set_option maxHeartbeats 4000000
open PySem PySem.Spec PyProof.Rows L2
section
variable {P : Program} {w : World} {K : PySem.W.Frag} {mg : Str → Option Value} {base : Heap}
def primes : List V := [.int 2147483647, .int 2147483629, .int 2147483587, .int 2147483579, .int 2147483563, .int 2147483549, .int 2147483543]
theorem primes_at {r : Int} (h0 : 0 ≤ r) (h1 : r < 7) : ∃ v : Int, atI primes r = some (.int v) ∧ 0 < v ∧ v < 2147483648 := by
  have : r = 0 ∨ r = 1 ∨ r = 2 ∨ r = 3 ∨ r = 4 ∨ r = 5 ∨ r = 6 := by omega
  rcases this with rfl | rfl | rfl | rfl | rfl | rfl | rfl <;> exact ⟨_, rfl, by decide, by decide⟩
def spTake : Sp := fun vs H Q _ => ∃ (p : Addr) (m : Int) (n : Nat), vs = [.ref p, .int m] ∧ PotAt H p n ∧ n < 1000000 ∧ 0 < m ∧ m < 1073741824 ∧
  ∀ (d : Int) H', Fr p H H' → PotAt H' p (n + 1) → 0 ≤ d → d < m → Q (.int d) H'
theorem ok_take {f : Addr} {fd : FuncData} {k : Nat} (F : Fun K "_law_take" "_law_take" sTake f fd) : FnOk P w K mg base CX0 (k + 1) f fd ["_law_pot_here", "_law_many"] spTake := by
  refine F.ok scTake (fun vs H Q E h => ?_) (fun cdv A outer s H vs Q E hr h => ?_)
  · obtain ⟨a, ns, k, rfl, _⟩ := h
    rfl
  · obtain ⟨p, m, n, rfl, ⟨g, c, t, hp, ht0, ht1⟩, hn, hm0, hm1, q⟩ := h
    refine ⟨_, pss_cons (ps_if (pt_cmpR op_gt (pe_ix ix_list (pv 0) pe_int (fun _ _ => rfl)) pe_int (nomark _))
        (pss_cons (ps_set (i := 2) scTake.nd rfl (.inl rfl) (pe_op op_mod (pe_ix ix_list (pv 0) pe_int (fun _ _ => rfl)) (pv 1)))
          (pss_cons (ps_asg (pe_op op_fdiv (pe_ix ix_list (pv 0) pe_int (fun _ _ => rfl)) (pv 1)) (pg_sub (pv 0) pe_int set_list)) (pss_one (ps_ret (pv 2))))) pss_nil)
      (pss_cons (ps_set (i := 3) scTake.nd rfl (.inl rfl) (pe_op op_add (pe_ix ix_list (pv 0) pe_int (fun _ _ => rfl)) pe_int))
      (pss_cons (ps_asg (pv 3) (pg_sub (pv 0) pe_int set_list))
      (pss_cons (ps_set (i := 4) scTake.nd rfl (.inl rfl) (pe_ix ix_list (pe_lst (pa_cons pe_int (pa_cons pe_int (pa_cons pe_int (pa_cons pe_int (pa_cons pe_int (pa_cons pe_int (pa_cons pe_int pa_nil))))))))
          (pe_op op_mod (pv 3) pe_int) (fun _ _ => rfl)))
      (pss_cons (ps_set (i := 5) scTake.nd rfl (.inl rfl) (pe_op op_add (pe_op op_mod (pe_op op_mod (pe_op op_add (pe_ix ix_list (pv 0) pe_int (fun _ _ => rfl))
          (pe_op op_mul (pe_op op_mul pe_int (pv 3)) (pv 3))) (pe_op op_mul (pv 4) (pv 4))) (pv 4)) pe_int))
      (pss_one (ps_ret (pe_op op_mod (pe_op op_fdiv (pe_op op_mod (pe_op op_mul (pv 5) (pe_op op_add (pe_op op_mod (pv 5) pe_int) (pv 3))) (pv 4)) pe_int) (pv 1)))))))), ?_⟩
    have L0 : SqL K H p [.int g, .int c, .int t] := .inl (.inl hp)
    refine ⟨.ref p, rfl, p, _, 0, .int g, rfl, rfl, L0, rfl, _, _, rfl, rfl, _, rfl, ite2 (fun e => ?_) (fun e => ?_)⟩
    · refine ⟨.ref p, rfl, p, _, 0, .int g, rfl, rfl, L0, rfl, .int m, rfl, _, _, rfl, rfl, hm0, ?_⟩
      refine ⟨.ref p, rfl, p, _, 0, .int g, rfl, rfl, L0, rfl, .int m, rfl, _, _, rfl, rfl, ⟨hm0, hm1⟩, ?_⟩
      refine ⟨.ref p, rfl, p, _, 0, 0, rfl, rfl, hp, rfl, ?_⟩
      refine ⟨_, rfl, q _ _ Fr.upd ⟨_, _, _, upd_same, ht0, by omega⟩ (Int.emod_nonneg _ (by omega)) (Int.emod_lt_of_pos _ hm0)⟩
    · refine ⟨.ref p, rfl, p, _, 2, .int t, rfl, rfl, L0, rfl, _, 1, rfl, rfl, ?_⟩
      refine ⟨.int (t + 1), rfl, .ref p, rfl, p, _, 2, 2, rfl, rfl, hp, rfl, ?_⟩
      have hp2 : (upd H p (.lst (List.set [.int g, .int c, .int t] 2 (.int (t + 1))))) p = some (.lst [.int g, .int c, .int (t + 1)]) := upd_same
      refine ⟨by show 7 ≤ sizeLine; decide, fun o no => ?_⟩
      have npo : p ≠ o := ne_of_none hp2 no
      have hp3 : (upd (upd H p (.lst (List.set [.int g, .int c, .int t] 2 (.int (t + 1))))) o (.lst primes)) p = some (.lst [.int g, .int c, .int (t + 1)]) := by
        rw [upd_ne npo]
        exact hp2
      have fr3 : Fr p H (upd (upd H p (.lst (List.set [.int g, .int c, .int t] 2 (.int (t + 1))))) o (.lst primes)) := Fr.trans Fr.upd (Fr.new no)
      have L3 : SqL K (upd (upd H p (.lst (List.set [.int g, .int c, .int t] 2 (.int (t + 1))))) o (.lst primes)) p [.int g, .int c, .int (t + 1)] := .inl (.inl hp3)
      have LO : SqL K (upd (upd H p (.lst (List.set [.int g, .int c, .int t] 2 (.int (t + 1))))) o (.lst primes)) o primes := .inl (.inl upd_same)
      obtain ⟨v, hv, v0, v1⟩ := primes_at (r := (t + 1) % 7) (Int.emod_nonneg _ (by decide)) (Int.emod_lt_of_pos _ (by decide))
      have b20 : (-(2 ^ 64) : Int) < t + 1 ∧ t + 1 < 2 ^ 64 := ⟨by omega, by omega⟩
      have bv : (-(2 ^ 64) : Int) < v ∧ v < 2 ^ 64 := ⟨by omega, by omega⟩
      refine ⟨.int (t + 1), rfl, _, 7, rfl, rfl, (by show (0 : Int) < 7; decide), o, _, _, _, rfl, rfl, LO, hv, ?_⟩
      refine ⟨.ref p, rfl, p, _, 1, .int c, rfl, rfl, L3, rfl, .int (t + 1), rfl, 69621, _, rfl, rfl, .inr b20, .int (t + 1), rfl, _, _, rfl, rfl, .inr b20, _, _, rfl, rfl,
        .int v, rfl, .int v, rfl, v, v, rfl, rfl, .inl bv, _, _, rfl, rfl, (Int.mul_pos v0 v0), .int v, rfl, _, _, rfl, rfl, v0, _, 1, rfl, rfl, ?_⟩
      have z0 := Int.emod_nonneg ((c + 69621 * (t + 1) * (t + 1)) % (v * v)) (show v ≠ 0 by omega)
      have z1 := Int.emod_lt_of_pos ((c + 69621 * (t + 1) * (t + 1)) % (v * v)) v0
      generalize (c + 69621 * (t + 1) * (t + 1)) % (v * v) % v = z at z0 z1
      have bz : (-(2 ^ 64) : Int) < z + 1 ∧ z + 1 < 2 ^ 64 := ⟨by omega, by omega⟩
      refine ⟨.int (z + 1), rfl, .int (z + 1), rfl, z + 1, 1009, rfl, rfl, (by show (0 : Int) < 1009; decide), .int (t + 1), rfl, _, _, rfl, rfl, _, _, rfl, rfl, .inl bz, .int v, rfl, _, _, rfl, rfl, v0, _, 7, rfl, rfl, ⟨by decide, by decide⟩,
        .int m, rfl, _, _, rfl, rfl, hm0, ?_⟩
      exact q _ _ fr3 ⟨_, _, _, hp3, by omega, by omega⟩ (Int.emod_nonneg _ (by omega)) (Int.emod_lt_of_pos _ hm0)
end
end C2

namespace C2
set_option Elab.async false
set_option linter.all false
set_option maxRecDepth 100000
set_option maxHeartbeats 4000000
open PySem PySem.Spec PyProof.Rows L2
theorem seqAsg {ta : TE} {i : Nat} {t : TS} {D : _} {σ : L2.St} {H : Hp} (h : ta σ H fun x H1 => t D (σ.set i (some x)) H1) : tSeq (tAsg ta (gName i)) t D σ H := h
theorem tcb_run {r : List V → Hp → VK → Prop} {te : TE} {σ : L2.St} {H : Hp} {Q : VK} (h : te σ H fun x H1 => r [x] H1 Q) : tCB r (tCons te tNil) σ H Q := h
theorem gName_run {i : Nat} {v : V} {σ : L2.St} {H : Hp} {Q : L2.St → Hp → Prop} (h : Q (σ.set i (some v)) H) : gName i v σ H Q := h
theorem PotAt.mono {H : Hp} {p : Addr} {n m : Nat} (h : PotAt H p n) (l : n ≤ m) : PotAt H p m := by
  obtain ⟨g, c, t, a, b, d⟩ := h
  exact ⟨g, c, t, a, b, by omega⟩
theorem PotAt.new {H : Hp} {p t : Addr} {n : Nat} {o : HO} (h : PotAt H p n) (nt : H t = none) : PotAt (upd H t o) p n := by
  obtain ⟨g, c, u, hp, r⟩ := h
  exact ⟨g, c, u, by rw [upd_ne (ne_of_none hp nt)]; exact hp, r⟩
theorem PotAt.ne {H : Hp} {p t : Addr} {n : Nat} (h : PotAt H p n) (nt : H t = none) : t ≠ p := by
  obtain ⟨g, c, u, hp, r⟩ := h
  exact fun e => by rw [e, hp] at nt; cases nt
theorem PotAt.same {H H' : Hp} {p : Addr} {n : Nat} (h : PotAt H p n) (s : Same H H') : PotAt H' p n := by
  obtain ⟨g, c, u, hp, r⟩ := h
  exact ⟨g, c, u, s _ _ hp, r⟩
theorem PotAt.at {H : Hp} {p D : Addr} {o : HO} {n : Nat} (h : PotAt H p n) (ne : D ≠ p) : PotAt (upd H D o) p n := by
  obtain ⟨g, c, u, hp, r⟩ := h
  exact ⟨g, c, u, by rw [upd_ne ne.symm]; exact hp, r⟩
section
variable {P : Program} {w : World} {K : PySem.W.Frag} {mg : Str → Option Value} {base : Heap}
abbrev NSz : List Str := ["_law_pot_here", "_law_most", "_law_way"]
theorem scSize : FnScope NSz ["_law_pot_here", "_law_most"] (defScope sSize) := ⟨rfl, rfl, rfl, by decide +kernel, rfl, by decide +kernel, by decide +kernel⟩
/-- size: two small numbers -/
def spSize : Sp := fun vs H Q _ => ∃ (p : Addr) (m : Int) (n : Nat), vs = [.ref p, .int m] ∧ 1 ≤ m ∧ m ≤ 9 ∧ PotAt H p n ∧ n < 900000 ∧
  ∀ (a b : Nat) t H', ((a : Int) ≤ m ∨ a ≤ 4) → ((b : Int) ≤ m ∨ b ≤ 4) → Fr p H H' → PotAt H' p (n + 4) → H' t = some (.tup [.int (a : Int), .int (b : Int)]) → Q (.ref t) H'
theorem ok_size {f fT : Addr} {fd fdT : FuncData} {k : Nat} (F : Fun K "_law_size" "_law_size" sSize f fd) (FT : Fun K "_law_take" "_law_take" sTake fT fdT) (bT : Binds K fdT ["_law_pot_here", "_law_many"] []) (gT : mg "_law_take" = some (.ref fT)) :
    FnOk P w K mg base CX0 (k + 2) f fd ["_law_pot_here", "_law_most"] spSize := by
  have GT : FnOk P w K mg base CX0 (k + 1) fT fdT ["_law_pot_here", "_law_many"] spTake := ok_take FT
  refine F.ok scSize (fun vs H Q E h => ?_) (fun cdv A outer s H vs Q E hr h => ?_)
  · obtain ⟨p, m, n, rfl, _⟩ := h
    rfl
  · obtain ⟨p, m, n, rfl, m0, m1, hP, hn, q⟩ := h
    have nd := scSize.nd
    refine ⟨_, pss_cons (ps_set (i := 2) nd rfl (.inl rfl) (pe_call GT hr (by rfl) gT FT.kp bT .nil pass0 (pa_cons (pv 0) (pa_cons pe_int pa_nil))))
      (pss_cons (ps_if (pt_cmpR op_eq (pv 2) pe_int (nomark _)) (pss_one (ps_ret (pe_ix ix_list (pe_lst (pa_cons (pe_tup (pa_cons pe_int (pa_cons (pe_call GT hr (by rfl) gT FT.kp bT .nil pass0 (pa_cons (pv 0) (pa_cons pe_int pa_nil))) pa_nil))) (pa_cons (pe_tup (pa_cons (pe_call GT hr (by rfl) gT FT.kp bT .nil pass0 (pa_cons (pv 0) (pa_cons pe_int pa_nil))) (pa_cons pe_int pa_nil))) pa_nil))) (pe_call GT hr (by rfl) gT FT.kp bT .nil pass0 (pa_cons (pv 0) (pa_cons pe_int pa_nil))) (fun _ _ => rfl)))) pss_nil)
      (pss_one (ps_ret (pe_tup (pa_cons (pe_op op_add pe_int (pe_call GT hr (by rfl) gT FT.kp bT .nil pass0 (pa_cons (pv 0) (pa_cons (pv 1) pa_nil)))) (pa_cons (pe_op op_add pe_int (pe_call GT hr (by rfl) gT FT.kp bT .nil pass0 (pa_cons (pv 0) (pa_cons (pv 1) pa_nil)))) pa_nil)))))), ?_⟩
    refine ⟨.ref p, rfl, p, 8, n, rfl, hP, by omega, by decide, by decide, fun kd H1 f1 P1 k0 k1 => ?_⟩
    have fin : ∀ (x y : Int) (t : Addr) (G : Hp), 0 ≤ x → (x ≤ m ∨ x ≤ 4) → 0 ≤ y → (y ≤ m ∨ y ≤ 4) → Fr p H G → PotAt G p (n + 4) → G t = some (.tup [.int x, .int y]) → Q (.ref t) G := by
      intro x y t G x0 x1 y0 y1 fr pt ht
      have z := q x.toNat y.toNat t G (by omega) (by omega) fr pt
      rw [Int.toNat_of_nonneg x0, Int.toNat_of_nonneg y0] at z
      exact z ht
    refine ⟨.int kd, rfl, rfl, _, rfl, ite2 (fun e => ?_) (fun e => ?_)⟩
    · refine ⟨.ref p, rfl, p, 5, n + 1, rfl, P1, by omega, by decide, by decide, fun x H2 f2 P2 x0 x1 => ⟨by show 2 ≤ sizeLine; decide, fun t1 n1 => ?_⟩⟩
      refine ⟨.ref p, rfl, p, 5, n + 2, rfl, P2.new n1, by omega, by decide, by decide, fun y H3 f3 P3 y0 y1 => ⟨by show 2 ≤ sizeLine; decide, fun t2 n2 => ⟨by show 2 ≤ sizeLine; decide, fun l nl => ?_⟩⟩⟩
      have P4 := (P3.new (o := .tup [.int y, .int 0]) n2).new (o := .lst [.ref t1, .ref t2]) nl
      have nt1 : t1 ≠ p := P2.ne n1
      have nt2 : t2 ≠ p := P3.ne n2
      have nl' : l ≠ p := (P3.new (o := .tup [.int y, .int 0]) n2).ne nl
      have a1 := f3 _ _ nt1 (upd_same (H := H2) (a := t1) (o := .tup [.int 0, .int x]))
      have a1' := (same_upd (o := .lst [.ref t1, .ref t2]) nl) _ _ ((same_upd (o := .tup [.int y, .int 0]) n2) _ _ a1)
      have a2' := (same_upd (o := .lst [.ref t1, .ref t2]) nl) _ _ (upd_same (H := H3) (a := t2) (o := .tup [.int y, .int 0]))
      have al := upd_same (H := upd H3 t2 (.tup [.int y, .int 0])) (a := l) (o := .lst [.ref t1, .ref t2])
      have f4 : Fr p H (upd (upd H3 t2 (.tup [.int y, .int 0])) l (.lst [.ref t1, .ref t2])) := f1.trans (f2.trans ((Fr.new n1).trans (f3.trans ((Fr.new n2).trans (Fr.new nl)))))
      refine ⟨.ref p, rfl, p, 2, n + 3, rfl, P4, by omega, by decide, by decide, fun z H5 f5 P5 z0 z1 => ?_⟩
      have al5 := f5 _ _ nl' al
      have c : z = 0 ∨ z = 1 := by omega
      rcases c with rfl | rfl
      · exact ⟨l, _, _, .ref t1, rfl, rfl, .inl (.inl al5), rfl, fin 0 x t1 H5 (by decide) (.inr (by decide)) x0 (by omega) (f4.trans f5) P5 (f5 _ _ nt1 a1')⟩
      · exact ⟨l, _, _, .ref t2, rfl, rfl, .inl (.inl al5), rfl, fin y 0 t2 H5 y0 (by omega) (by decide) (.inr (by decide)) (f4.trans f5) P5 (f5 _ _ nt2 a2')⟩
    · refine ⟨.ref p, rfl, .int m, rfl, p, m, n + 1, rfl, P1, by omega, by omega, by omega, fun x H2 f2 P2 x0 x1 => ⟨_, _, rfl, rfl, ?_⟩⟩
      refine ⟨.ref p, rfl, .int m, rfl, p, m, n + 2, rfl, P2, by omega, by omega, by omega, fun y H3 f3 P3 y0 y1 => ⟨_, _, rfl, rfl, by show 2 ≤ sizeLine; decide, fun t nt => ?_⟩⟩
      exact fin _ _ t _ (by omega) (by omega) (by omega) (by omega) (f1.trans (f2.trans (f3.trans (Fr.new nt)))) ((P3.new nt).mono (by omega)) upd_same
end
end C2

namespace C2
set_option Elab.async false
set_option linter.all false
set_option maxRecDepth 100000
set_option maxHeartbeats 4000000
open PySem PySem.Spec PyProof.Rows L2
def rTupOf (K : PySem.W.Frag) : List V → Hp → VK → Prop := fun xs H Q => ∃ p ys, xs = [.ref p] ∧ ((SqL K H p ys ∧ ∀ l, H l = none → Q (.ref l) (upd H l (.tup ys))) ∨ (SqT K H p ys ∧ Q (.ref p) H))
/-- numbers from nought to m -/
def Upto (m : Nat) (vs : List Int) : Prop := ∀ v ∈ vs, 0 ≤ v ∧ v ≤ (m : Int)
theorem Upto.snoc {m : Nat} {vs : List Int} {v : Int} (h : Upto m vs) (h0 : 0 ≤ v) (h1 : v ≤ (m : Int)) : Upto m (vs ++ [v]) := fun x hx => by
  rcases List.mem_append.mp hx with hx | hx
  · exact h x hx
  · rw [List.mem_singleton.mp hx]
    exact ⟨h0, h1⟩
theorem Upto.set {m : Nat} {vs : List Int} {v : Int} {j : Nat} (h : Upto m vs) (h0 : 0 ≤ v) (h1 : v ≤ (m : Int)) : Upto m (vs.set j v) := fun x hx => by
  rcases List.mem_or_eq_of_mem_set hx with hx | hx
  · exact h x hx
  · rw [hx]
    exact ⟨h0, h1⟩
theorem set_ints (vs : List Int) (j : Nat) (v : Int) : (vs.map V.int).set j (.int v) = (vs.set j v).map V.int := by rw [List.map_set]
/-- a comprehension over a range, each item drawn -/
theorem lc_draw {te : TE} {ta : TA} {σ : L2.St} {H : Hp} {Q : VK} {p : Addr} {sl n len m : Nat} (hs : ∀ v, wipe ((wipe σ [sl]).set sl (some v)) [sl] = wipe σ [sl]) (hlen : len ≤ 40) (hta : ∀ R : List V → Hp → Prop, R [.int (len : Int)] H → ta σ H R) (hP : PotAt H p n)
    (hte : ∀ (j : Nat) (G : Hp) (R : VK), j < len → PotAt G p (n + 3 * j) → (∀ (d : Int) G', Fr p G G' → PotAt G' p (n + 3 * (j + 1)) → 0 ≤ d → d ≤ (m : Int) → R (.int d) G') → te ((wipe σ [sl]).set sl (some (.int (j : Int)))) G R)
    (k : ∀ D vs G, Fr p H G → PotAt G p (n + 3 * len) → H D = none → D ≠ p → G D = some (.lst (vs.map V.int)) → vs.length = len → Upto m vs → Q (.ref D) G) : tLc (iRng1 ta) (gName sl) tYes te [sl] σ H Q := by
  refine hta _ ⟨(len : Int), rfl, by omega, by omega, fun D nD => ?_⟩
  have nDp : D ≠ p := hP.ne nD
  refine lc_range (lo := 0) (n := len) (fun j G => Fr p H G ∧ PotAt G p (n + 3 * j) ∧ ∃ vs : List Int, G D = some (.lst (vs.map V.int)) ∧ vs.length = j ∧ Upto m vs) ⟨Fr.new nD, hP.new nD, [], upd_same, rfl, fun v hv => by cases hv⟩ ?_ ?_
  · rintro j G hj ⟨fr, pt, vs, hD, hl, up⟩
    rw [Int.zero_add]
    refine ⟨hs _, ?_⟩
    simp only [tYes, ↓reduceIte]
    refine hte j G _ hj pt fun d G' f P d0 d1 => ⟨_, f _ _ nDp hD, ?_, ?_, P.at nDp, vs ++ [d], ?_, ?_, up.snoc d0 d1⟩
    · rw [List.length_map, hl]
      exact Nat.lt_of_lt_of_le (show j < 1000 by omega) (by decide)
    · intro b o nb e
      rw [upd_ne (ne_of_none e nD)]
      exact f _ _ nb (fr _ _ nb e)
    · rw [upd_same, List.map_append]
      rfl
    · rw [List.length_append, hl]
      rfl
  · rintro G ⟨fr, pt, vs, hD, hl, up⟩
    exact k D vs G fr pt nD nDp hD hl up
section
variable {P : Program} {w : World} {K : PySem.W.Frag} {mg : Str → Option Value} {base : Heap}
def tTk (e : TE) : TE := tCall spTake [] E0 (tCons (tVar 0) (tCons e tNil))
def tUp (c : Nat) : TE := tTk (tOp (rI0 fun i j => V.int (i + j)) (tVar c) (tC (V.int 1)))
def teP (K : PySem.W.Frag) (c : Nat) : TE := tOp (rIxL K) (tLst (tCons (tUp c) (tCons (tOp (rI CMul fun i j => V.int (i * j)) (tVar c) (tTk (tC (V.int 2)))) tNil))) (tVar 3)
theorem tk_ok {e : TE} {σ : L2.St} {G : Hp} {R : VK} {p : Addr} {m : Int} {n : Nat} (h0 : σ[0]? = some (some (.ref p))) (he : ∀ R : VK, R (.int m) G → e σ G R) (hP : PotAt G p n) (hn : n < 1000000) (m0 : 0 < m) (m1 : m < 1000)
    (k : ∀ d G', Fr p G G' → PotAt G' p (n + 1) → 0 ≤ d → d < m → R (.int d) G') : tTk e σ G R :=
  ⟨.ref p, h0, he _ ⟨p, m, n, rfl, hP, hn, m0, by omega, k⟩⟩
theorem up_ok {c : Nat} {σ : L2.St} {G : Hp} {R : VK} {p : Addr} {a n : Nat} (h0 : σ[0]? = some (some (.ref p))) (hc : σ[c]? = some (some (.int (a : Int)))) (hP : PotAt G p n) (hn : n < 1000000) (ha : a ≤ 40)
    (k : ∀ d G', Fr p G G' → PotAt G' p (n + 1) → 0 ≤ d → d ≤ (a : Int) → R (.int d) G') : tUp c σ G R :=
  tk_ok (m := (a : Int) + 1) h0 (fun R q => ⟨.int (a : Int), hc, _, 1, rfl, rfl, q⟩) hP hn (by omega) (by omega) fun d G' f P d0 d1 => k d G' f P d0 (by omega)
theorem teP_ok {c : Nat} {σ : L2.St} {G : Hp} {R : VK} {p : Addr} {a n : Nat} {way : Int} (h0 : σ[0]? = some (some (.ref p))) (hc : σ[c]? = some (some (.int (a : Int)))) (h3 : σ[3]? = some (some (.int way))) (hw : way = 0 ∨ way = 1) (hP : PotAt G p n) (hn : n < 999000) (ha : a ≤ 40)
    (k : ∀ d G', Fr p G G' → PotAt G' p (n + 3) → 0 ≤ d → d ≤ (a : Int) → R (.int d) G') : teP K c σ G R := by
  refine up_ok h0 hc hP (by omega) ha fun d G1 f1 P1 d0 d1 => ?_
  refine ⟨.int (a : Int), hc, tk_ok (m := 2) h0 (fun R q => q) P1 (by omega) (by decide) (by decide) fun x G2 f2 P2 x0 x1 => ?_⟩
  refine ⟨_, _, rfl, rfl, .inl ⟨by omega, by omega⟩, by show 2 ≤ sizeLine; decide, fun l nl => ⟨.int way, h3, ?_⟩⟩
  have f3 : Fr p G (upd G2 l (.lst [.int d, .int ((a : Int) * x)])) := f1.trans (f2.trans (Fr.new nl))
  have P3 := (P2.new (o := .lst [.int d, .int ((a : Int) * x)]) nl).mono (show n + 1 + 1 ≤ n + 3 by omega)
  rcases hw with rfl | rfl
  · exact ⟨l, _, _, .int d, rfl, rfl, .inl (.inl upd_same), rfl, k d _ f3 P3 d0 d1⟩
  · have cx : x = 0 ∨ x = 1 := by omega
    refine ⟨l, _, _, .int ((a : Int) * x), rfl, rfl, .inl (.inl upd_same), rfl, k _ _ f3 P3 ?_ ?_⟩
    · rcases cx with rfl | rfl <;> omega
    · rcases cx with rfl | rfl <;> omega
abbrev NPk : List Str := ["_law_pot_here", "_law_a", "_law_b", "_law_way", "_law_xs", "_law_ys", "_law_turn", "_law_j", "_law_i", "_law_x"]
theorem scPick : FnScope NPk ["_law_pot_here", "_law_a", "_law_b"] (defScope sPick) := ⟨rfl, rfl, rfl, by decide +kernel, rfl, by decide +kernel, by decide +kernel⟩
abbrev scSpot : Scope := { kind := .function, names := [(".0", .local), ("_law_i", .cell), ("len", .globalImplicit), ("_law_xs", .cell)], isGenerator := false, isCoroutine := false }
def ttLe : TT := tTest (tOp (rI0 fun i j => V.bl (decide (i ≤ j))) (tVar 9) (tVar 8))
def teCo (K : PySem.W.Frag) : TE := tCB (fun xs H Q => ∃ p ys, xs = [.ref p] ∧ (SqL K H p ys ∨ SqT K H p ys) ∧ Q (.int (ys.length : Nat)) H) (tCons (tLc (iList K (tVar 4)) (gName 9) ttLe (tVar 9) [9]) tNil)
/-- a pick of this size stands there -/
def PickAt (G : Hp) (t : Addr) (a b : Nat) (xs ys : List Int) : Prop := ∃ tx ty, G t = some (.tup [.ref tx, .ref ty]) ∧ G tx = some (.tup (xs.map V.int)) ∧ G ty = some (.tup (ys.map V.int)) ∧ xs.length = b ∧ ys.length = a ∧ Upto a xs ∧ Upto b ys
theorem PickAt.same {G G' : Hp} {t : Addr} {a b : Nat} {xs ys : List Int} (h : PickAt G t a b xs ys) (s : Same G G') : PickAt G' t a b xs ys := by
  obtain ⟨tx, ty, h1, h2, h3, r⟩ := h
  exact ⟨tx, ty, s _ _ h1, s _ _ h2, s _ _ h3, r⟩
def spPick : Sp := fun vs H Q _ => ∃ (p : Addr) (a b n : Nat), vs = [.ref p, .int (a : Int), .int (b : Int)] ∧ a ≤ 40 ∧ b ≤ 40 ∧ PotAt H p n ∧ n < 900000 ∧
  ∀ t xs ys H', Fr p H H' → PotAt H' p (n + 300) → PickAt H' t a b xs ys → Q (.ref t) H'
def tTups (K : PySem.W.Frag) : TE := tTup (tCons (tCB (rTupOf K) (tCons (tVar 4) tNil)) (tCons (tCB (rTupOf K) (tCons (tVar 5) tNil)) tNil))
theorem tups_ok {σ : L2.St} {G : Hp} {R : VK} {lx ly : Addr} {a b : Nat} {xs ys : List Int} (h4 : σ[4]? = some (some (.ref lx))) (h5 : σ[5]? = some (some (.ref ly))) (hx : G lx = some (.lst (xs.map V.int))) (hy : G ly = some (.lst (ys.map V.int)))
    (l1 : xs.length = b) (l2 : ys.length = a) (u1 : Upto a xs) (u2 : Upto b ys) (k : ∀ t G', Same G G' → PickAt G' t a b xs ys → R (.ref t) G') : tTups K σ G R := by
  refine ⟨.ref lx, h4, lx, _, rfl, .inl ⟨.inl (.inl hx), fun t1 n1 => ?_⟩⟩
  have s1 := same_upd (o := .tup (xs.map V.int)) n1
  refine ⟨.ref ly, h5, ly, _, rfl, .inl ⟨.inl (.inl (s1 _ _ hy)), fun t2 n2 => ⟨by show 2 ≤ sizeLine; decide, fun t nt => ?_⟩⟩⟩
  have s2 := same_upd (o := .tup (ys.map V.int)) n2
  have s3 := same_upd (o := .tup [.ref t1, .ref t2]) nt
  exact k t _ (s1.trans (s2.trans s3)) ⟨t1, t2, upd_same, s3 _ _ (s2 _ _ upd_same), s3 _ _ upd_same, l1, l2, u1, u2⟩
/-! ### letters put at drawn places -/
def tMany : TA := tCons (tOp (rI CMul fun i j => V.int (i * j)) (tOp (rI0 fun i j => V.int (i - j)) (tOp (rI CDiv fun i j => V.int (i / j)) (tVar 3) (tC (V.int 2))) (tC (V.int 1))) (tOp (rI0 fun i j => V.int (i + j)) (tC (V.int 1)) (tTk (tC (V.int 2))))) tNil
def tPut (c s d : Nat) : TS := tAsg (tUp c) (gSub (tVar s) (tTk (tVar d)) rSetL)
def tElse : TS := tIfS (tTest (tOp (rI0 fun i j => V.bl (decide (j < i))) (tVar 1) (tC (V.int 0)))) (tPut 2 5 1) tNext
def tTurn : TS := tIfS (tAnd (tTest (tOp (rI0 fun i j => V.bl (decide (j < i))) (tVar 2) (tC (V.int 0)))) (tTest (tOp rEq (tTk (tC (V.int 2))) (tC (V.int 0))))) (tPut 1 4 2) tElse
def tRest (K : PySem.W.Frag) : TS := tSeq (tFor (iRng1 tMany) (gName 6) tTurn) (tRet (tTups K))
theorem put_ok {c sl d : Nat} {σ : L2.St} {G : Hp} {D : Ends} {p l : Addr} {a b n : Nat} {vs : List Int} (h0 : σ[0]? = some (some (.ref p))) (hc : σ[c]? = some (some (.int (a : Int)))) (hs : σ[sl]? = some (some (.ref l))) (hd : σ[d]? = some (some (.int (b : Int))))
    (hl : G l = some (.lst (vs.map V.int))) (lv : vs.length = b) (b0 : 0 < b) (hb : b ≤ 40) (ha : a ≤ 40) (np : l ≠ p) (hP : PotAt G p n) (hn : n < 999000) (up : Upto a vs)
    (k : ∀ ws G', G' l = some (.lst (ws.map V.int)) → ws.length = b → Upto a ws → (∀ e o, e ≠ p → e ≠ l → G e = some o → G' e = some o) → PotAt G' p (n + 2) → D.nx σ G') : tPut c sl d D σ G := by
  refine up_ok h0 hc hP (by omega) ha fun v G1 f1 P1 v0 v1 => ?_
  refine ⟨.ref l, hs, tk_ok (m := (b : Int)) h0 (fun R q => ⟨.int (b : Int), hd, q⟩) P1 (by omega) (by omega) (by omega) fun j G2 f2 P2 j0 j1 => ?_⟩
  have h2 := f2 _ _ np (f1 _ _ np hl)
  have ej : j = ((j.toNat : Nat) : Int) := by omega
  refine ⟨l, vs.map V.int, j, j.toNat, rfl, rfl, h2, ?_, ?_⟩
  · rw [List.length_map, lv]
    unfold ixN
    rw [if_pos j0, if_pos j1]
  · refine k (vs.set j.toNat v) _ ?_ (by rw [List.length_set]; exact lv) (up.set v0 v1) (fun e o ne nl he => ?_) (P2.at np)
    · rw [upd_same, set_ints]
    · rw [upd_ne nl]
      exact f2 _ _ ne (f1 _ _ ne he)
theorem rest_ok {D : Ends} {H0 G : Hp} {p lx ly : Addr} {a b n : Nat} {way : Int} {xs ys : List Int} {y6 y7 y8 y9 : Option V} (w0 : 2 ≤ way) (w1 : way < 6) (ha : a ≤ 40) (hb : b ≤ 40) (fr : Fr p H0 G) (hP : PotAt G p n) (hn : n < 990000)
    (nx : H0 lx = none) (ny : H0 ly = none) (npx : lx ≠ p) (npy : ly ≠ p) (nxy : lx ≠ ly) (hx : G lx = some (.lst (xs.map V.int))) (hy : G ly = some (.lst (ys.map V.int))) (l1 : xs.length = b) (l2 : ys.length = a) (u1 : Upto a xs) (u2 : Upto b ys)
    (k : ∀ t xs ys G', Fr p H0 G' → PotAt G' p (n + 10) → PickAt G' t a b xs ys → D.rt (.ref t) G') :
    tRest K D [some (.ref p), some (.int (a : Int)), some (.int (b : Int)), some (.int way), some (.ref lx), some (.ref ly), y6, y7, y8, y9] G := by
  have hw : way / 2 = 1 ∨ way / 2 = 2 := by omega
  refine ⟨.int way, rfl, way, 2, rfl, rfl, ⟨by decide, by decide⟩, _, 1, rfl, rfl, tk_ok (m := 2) rfl (fun R q => q) hP (by omega) (by decide) (by decide) fun d G1 f1 P1 d0 d1 => ⟨1, d, rfl, rfl, _, _, rfl, rfl, .inl ⟨by omega, by omega⟩, ?_⟩⟩
  have hm : 0 ≤ (way / 2 - 1) * (1 + d) ∧ (way / 2 - 1) * (1 + d) ≤ 2 := by rcases hw with e | e <;> rw [e] <;> omega
  obtain ⟨mm, em, hm⟩ : ∃ mm, (way / 2 - 1) * (1 + d) = mm ∧ 0 ≤ mm ∧ mm ≤ 2 := ⟨_, rfl, hm⟩
  refine ⟨mm, congrArg (fun z => [V.int z]) em, by omega, by omega, ?_⟩
  have inv0 : Fr p H0 G1 := fr.trans f1
  refine for_range (lo := 0) (n := mm.toNat) (fun i σ G' => Fr p H0 G' ∧ PotAt G' p (n + 1 + 3 * i) ∧ ∃ xs ys : List Int, G' lx = some (.lst (xs.map V.int)) ∧ G' ly = some (.lst (ys.map V.int)) ∧ xs.length = b ∧ ys.length = a ∧ Upto a xs ∧ Upto b ys ∧
    ∃ y6, σ = [some (.ref p), some (.int (a : Int)), some (.int (b : Int)), some (.int way), some (.ref lx), some (.ref ly), y6, y7, y8, y9]) ⟨inv0, P1, xs, ys, f1 _ _ npx hx, f1 _ _ npy hy, l1, l2, u1, u2, _, rfl⟩ ?_ ?_
  · rintro i σ G2 hi ⟨fr2, P2, xs2, ys2, hx2, hy2, l1, l2, u1, u2, y6, rfl⟩
    rw [Int.zero_add]
    have i2 : i < 2 := by omega
    have other : ∀ G3, Fr p H0 G3 → PotAt G3 p (n + 1 + 3 * i + 1) → G3 lx = some (.lst (xs2.map V.int)) → G3 ly = some (.lst (ys2.map V.int)) → ∀ E : Ends, (∀ σ G', (Fr p H0 G' ∧ PotAt G' p (n + 1 + 3 * (i + 1)) ∧ ∃ xs ys : List Int, G' lx = some (.lst (xs.map V.int)) ∧ G' ly = some (.lst (ys.map V.int)) ∧ xs.length = b ∧ ys.length = a ∧ Upto a xs ∧ Upto b ys ∧
        ∃ y6, σ = [some (.ref p), some (.int (a : Int)), some (.int (b : Int)), some (.int way), some (.ref lx), some (.ref ly), y6, y7, y8, y9]) → E.nx σ G') →
        tElse E [some (.ref p), some (.int (a : Int)), some (.int (b : Int)), some (.int way), some (.ref lx), some (.ref ly), some (.int (i : Int)), y7, y8, y9] G3 := by
      intro G3 fr3 P3 hx3 hy3 E fin
      refine ⟨.int (a : Int), rfl, _, _, rfl, rfl, _, rfl, ite2 (fun e => ?_) (fun e => ?_)⟩
      · have a0 : 0 < a := by
          have := of_decide_eq_true e
          omega
        refine put_ok (a := b) (b := a) (l := ly) (vs := ys2) rfl rfl rfl rfl hy3 l2 a0 ha hb npy P3 (by omega) u2 fun ws G4 h4 lw uw kp P4 => fin _ _ ⟨fun e o ne he => ?_, P4.mono (by omega), xs2, ws, kp _ _ npx nxy hx3, h4, l1, lw, u1, uw, _, rfl⟩
        exact kp e o ne (ne_of_none he ny) (fr3 e o ne he)
      · exact fin _ _ ⟨fr3, P3.mono (by omega), xs2, ys2, hx3, hy3, l1, l2, u1, u2, _, rfl⟩
    refine ⟨.int (b : Int), rfl, _, _, rfl, rfl, _, rfl, ite2 (fun e => ?_) (fun e => ?_)⟩
    · have b0 : 0 < b := by
        have := of_decide_eq_true e
        omega
      refine tk_ok (m := 2) rfl (fun R q => q) P2 (by omega) (by decide) (by decide) fun d G3 f3 P3 d0 d1 => ⟨rfl, _, rfl, ite2 (fun e2 => ?_) (fun e2 => ?_)⟩
      · refine put_ok (a := a) (b := b) (l := lx) (vs := xs2) rfl rfl rfl rfl (f3 _ _ npx hx2) l1 b0 hb ha npx P3 (by omega) u1 fun ws G4 h4 lw uw kp P4 => ⟨fun e o ne he => ?_, P4.mono (by omega), ws, ys2, h4, kp _ _ npy nxy.symm (f3 _ _ npy hy2), lw, l2, uw, u2, _, rfl⟩
        exact kp e o ne (ne_of_none he nx) (f3 _ _ ne (fr2 e o ne he))
      · exact other G3 (fr2.trans f3) P3 (f3 _ _ npx hx2) (f3 _ _ npy hy2) _ fun _ _ h => h
    · exact other G2 fr2 (P2.mono (by omega)) hx2 hy2 _ fun _ _ h => h
  · rintro σ G2 ⟨fr2, P2, xs2, ys2, hx2, hy2, l1, l2, u1, u2, y6, rfl⟩
    exact tups_ok rfl rfl hx2 hy2 l1 l2 u1 u2 fun t G3 s3 pk => k t xs2 ys2 G3 (fr2.trans (Fr.same s3)) ((P2.same s3).mono (by omega)) pk
end
end C2

namespace C2
set_option Elab.async false
set_option linter.all false
set_option maxRecDepth 100000
set_option maxHeartbeats 4000000
open PySem PySem.Spec PyProof.Rows L2
section
variable {P : Program} {w : World} {K : PySem.W.Frag} {mg : Str → Option Value} {base : Heap}
/-- how many are at most so great -/
def upCount (xs : List Int) (i : Nat) : Int := ((xs.filter fun x => decide (x ≤ (i : Int))).length : Nat)
theorem upCount_le {b : Nat} {xs : List Int} (h : xs.length = b) (i : Nat) : 0 ≤ upCount xs i ∧ upCount xs i ≤ (b : Int) := by
  unfold upCount
  have := List.length_filter_le (fun x => decide (x ≤ (i : Int))) xs
  omega
theorem ok_pick {f fT : Addr} {fd fdT : FuncData} {k : Nat} (F : Fun K "_law_pick" "_law_pick" sPick f fd) (FT : Fun K "_law_take" "_law_take" sTake fT fdT) (bT : Binds K fdT ["_law_pot_here", "_law_many"] []) (gT : mg "_law_take" = some (.ref fT))
    (mr : mg "range" = none) (mt : mg "tuple" = none) (ms : mg "sorted" = none) (ml : mg "len" = none) : FnOk P w K mg base CX0 (k + 2) f fd ["_law_pot_here", "_law_a", "_law_b"] spPick := by
  have GT : FnOk P w K mg base CX0 (k + 1) fT fdT ["_law_pot_here", "_law_many"] spTake := ok_take FT
  refine F.ok scPick (fun vs H Q E h => ?_) (fun cdv A outer s H vs Q E hr h => ?_)
  · obtain ⟨p, a, b, n, rfl, _⟩ := h
    rfl
  · obtain ⟨p, a, b, n, rfl, ha, hb, hP, hn, q⟩ := h
    have nd := scPick.nd
    refine ⟨_, pss_cons (ps_set (i := 3) nd rfl (.inr rfl) (pe_call GT hr (by rfl) gT FT.kp bT .nil pass0 (pa_cons (pv 0) (pa_cons pe_int pa_nil))))
      (pss_cons (ps_if (pt_cmpR op_lt (pv 3) pe_int (nomark _)) (pss_cons (ps_set (i := 4) nd rfl (.inr rfl) (pe_lc (own := [("_law_j", 7)]) (g := gName 7) (tt := tYes) (te := teP K 1) rfl nd (pi_range1 (by rfl) mr (pa_cons (pv 2) pa_nil)) (blkOk_by (own := [("_law_j", 7)]) (N := NPk) (sc := defScope sPick) (by decide +kernel)) (fun _ _ _ _ _ => pg_name (i := 7) nd rfl (.inl rfl)) (fun _ _ _ _ _ => pts_nil) (fun _ _ _ _ _ => (pe_ix ix_list (pe_lst (pa_cons (pe_call GT hr (by rfl) gT FT.kp bT .nil pass0 (pa_cons (pv 0) (pa_cons (pe_op op_add (pv 1) pe_int) pa_nil))) (pa_cons (pe_op op_mul (pv 1) (pe_call GT hr (by rfl) gT FT.kp bT .nil pass0 (pa_cons (pv 0) (pa_cons pe_int pa_nil)))) pa_nil))) (pv 3) (fun _ _ => rfl)))))
      (pss_one (ps_ret (pe_tup (pa_cons (pe_callTy call_tuple_of (by rfl) mt (by decide +kernel) (pa_cons (pv 4) pa_nil)) (pa_cons (pe_callTy call_tuple_of (by rfl) mt (by decide +kernel) (pa_cons (pe_lc (own := [("_law_i", 8)]) (g := gName 8) (tt := tYes) (te := teP K 2) rfl nd (pi_range1 (by rfl) mr (pa_cons (pv 1) pa_nil)) (blkOk_by (own := [("_law_i", 8)]) (N := NPk) (sc := defScope sPick) (by decide +kernel)) (fun _ _ _ _ _ => pg_name (i := 8) nd rfl (.inl rfl)) (fun _ _ _ _ _ => pts_nil) (fun _ _ _ _ _ => (pe_ix ix_list (pe_lst (pa_cons (pe_call GT hr (by rfl) gT FT.kp bT .nil pass0 (pa_cons (pv 0) (pa_cons (pe_op op_add (pv 2) pe_int) pa_nil))) (pa_cons (pe_op op_mul (pv 2) (pe_call GT hr (by rfl) gT FT.kp bT .nil pass0 (pa_cons (pv 0) (pa_cons pe_int pa_nil)))) pa_nil))) (pv 3) (fun _ _ => rfl)))) pa_nil)) pa_nil)))))) pss_nil)
      (pss_cons (ps_set (i := 4) nd rfl (.inr rfl) (pe_callB cr_sorted (by rfl) ms (by decide +kernel) (pa_cons (pe_lc (own := [("_law_j", 7)]) (g := gName 7) (tt := tYes) (te := tUp 1) rfl nd (pi_range1 (by rfl) mr (pa_cons (pv 2) pa_nil)) (blkOk_by (own := [("_law_j", 7)]) (N := NPk) (sc := defScope sPick) (by decide +kernel)) (fun _ _ _ _ _ => pg_name (i := 7) nd rfl (.inl rfl)) (fun _ _ _ _ _ => pts_nil) (fun _ _ _ _ _ => (pe_call GT hr (by rfl) gT FT.kp bT .nil pass0 (pa_cons (pv 0) (pa_cons (pe_op op_add (pv 1) pe_int) pa_nil))))) pa_nil)))
      (pss_cons (ps_setLc (i := 5) (own := [("_law_i", 8)]) (g := gName 8) (tt := tYes) (te := teCo K) rfl nd rfl rfl (sw_true rfl rfl rfl (by decide +kernel)) (pi_range1 (by rfl) mr (pa_cons (pv 1) pa_nil)) (blkOk_by (own := [("_law_i", 8)]) (N := NPk) (sc := defScope sPick) (by decide +kernel)) (fun _ _ _ _ _ => (pg_name (i := 8) nd rfl (.inr rfl))) (fun _ _ _ _ _ => pts_nil) (fun _ _ _ _ _ => (pe_callB call_len_seq (by rfl) ml PySem.boot_len (pa_cons (pe_lc (own := [("_law_x", 9)]) (g := gName 9) (tt := ttLe) (te := tVar 9) rfl nd (pi_list (pv 4)) (blkOk_by (own := [("_law_x", 9)]) (N := NPk) (sc := scSpot) (by decide +kernel)) (fun _ _ _ _ _ => pg_name (i := 9) nd rfl (.inl rfl)) (fun _ _ _ _ _ => pts_one (pt_cmpR op_le (pv 9) (pv 8) (nomark _))) (fun _ _ _ _ _ => (pv 9))) pa_nil))))
      (pss_cons (ps_if (pt_cmpR op_eq (pe_op op_mod (pv 3) pe_int) pe_int (nomark _)) (pss_one (ps_asg (pe_tup (pa_cons (pe_lc (own := [("_law_x", 9)]) (g := gName 9) (tt := tYes) (te := tOp (rI0 fun i j => V.int (i - j)) (tVar 1) (tVar 9)) rfl nd (pi_list (pv 4)) (blkOk_by (own := [("_law_x", 9)]) (N := NPk) (sc := defScope sPick) (by decide +kernel)) (fun _ _ _ _ _ => pg_name (i := 9) nd rfl (.inl rfl)) (fun _ _ _ _ _ => pts_nil) (fun _ _ _ _ _ => (pe_op op_sub (pv 1) (pv 9)))) (pa_cons (pe_revL (pv 5)) pa_nil))) (pg_tup rfl (pgs_cons (pg_name (i := 4) nd rfl (.inr rfl)) (pgs_cons (pg_name (i := 5) nd rfl (.inl rfl)) pgs_nil))))) pss_nil)
      (pss_cons (ps_for PassesOwn.never rfl (pi_range1 (by rfl) mr (pa_cons (pe_op op_mul (pe_op op_sub (pe_op op_fdiv (pv 3) pe_int) pe_int) (pe_op op_add pe_int (pe_call GT hr (by rfl) gT FT.kp bT .nil pass0 (pa_cons (pv 0) (pa_cons pe_int pa_nil))))) pa_nil)) (pg_name (i := 6) nd rfl (.inl rfl)) (pss_one (ps_if (PW.pt (pw_and (pt_cmpR op_gt (pv 2) pe_int (nomark _)) (pw_and1 (pt_cmpR op_eq (pe_call GT hr (by rfl) gT FT.kp bT .nil pass0 (pa_cons (pv 0) (pa_cons pe_int pa_nil))) pe_int (nomark _))))) (pss_one (ps_asg (pe_call GT hr (by rfl) gT FT.kp bT .nil pass0 (pa_cons (pv 0) (pa_cons (pe_op op_add (pv 1) pe_int) pa_nil))) (pg_sub (pv 4) (pe_call GT hr (by rfl) gT FT.kp bT .nil pass0 (pa_cons (pv 0) (pa_cons (pv 2) pa_nil))) set_list))) (pss_one (ps_if (pt_cmpR op_gt (pv 1) pe_int (nomark _)) (pss_one (ps_asg (pe_call GT hr (by rfl) gT FT.kp bT .nil pass0 (pa_cons (pv 0) (pa_cons (pe_op op_add (pv 2) pe_int) pa_nil))) (pg_sub (pv 5) (pe_call GT hr (by rfl) gT FT.kp bT .nil pass0 (pa_cons (pv 0) (pa_cons (pv 1) pa_nil))) set_list))) pss_nil)))))
      (pss_one (ps_ret (pe_tup (pa_cons (pe_callTy call_tuple_of (by rfl) mt (by decide +kernel) (pa_cons (pv 4) pa_nil)) (pa_cons (pe_callTy call_tuple_of (by rfl) mt (by decide +kernel) (pa_cons (pv 5) pa_nil)) pa_nil)))))))))), ?_⟩
    refine ⟨.ref p, rfl, p, 6, n, rfl, hP, by omega, by decide, by decide, fun way H1 f1 P1 w0 w1 => ?_⟩
    refine ⟨.int way, rfl, _, _, rfl, rfl, _, rfl, ite2 (fun e => ?_) (fun e => ?_)⟩
    · have w2 : way = 0 ∨ way = 1 := by
        have := of_decide_eq_true e
        omega
      refine seqAsg (lc_draw (te := teP K 1) (sl := 7) (len := b) (m := a) (n := n + 1) (p := p) (fun v => rfl) hb (fun R h => ⟨.int (b : Int), rfl, h⟩) P1 (fun j G R hj pt kk => teP_ok (a := a) (n := n + 1 + 3 * j) (way := way) rfl rfl rfl w2 pt (by omega) ha fun d G' f P d0 d1 => kk d G' f (P.mono (by omega)) d0 d1) fun D vs G2 f2 P2 nD nDp hD l1 u1 => ?_)
      refine ⟨.ref D, rfl, D, _, rfl, .inl ⟨.inl (.inl hD), fun t1 n1 => ?_⟩⟩
      have s1 := same_upd (o := .tup (vs.map V.int)) n1
      refine tcb_run (lc_draw (te := teP K 2) (sl := 8) (len := a) (m := b) (n := n + 1 + 3 * b) (p := p) (fun v => rfl) ha (fun R h => ⟨.int (a : Int), rfl, h⟩) (P2.same s1) (fun j G R hj pt kk => teP_ok (a := b) (n := n + 1 + 3 * b + 3 * j) (way := way) rfl rfl rfl w2 pt (by omega) hb fun d G' f P d0 d1 => kk d G' f (P.mono (by omega)) d0 d1) fun D2 ws G3 f3 P3 nD2 nDp2 hD2 l2 u2 => ?_)
      refine ⟨D2, _, rfl, .inl ⟨.inl (.inl hD2), fun t2 n2 => ⟨by show 2 ≤ sizeLine; decide, fun t nt => ?_⟩⟩⟩
      have s2 := same_upd (o := .tup (ws.map V.int)) n2
      have s3 := same_upd (o := .tup [.ref t1, .ref t2]) nt
      have nt1 : t1 ≠ p := P2.ne n1
      refine q t vs ws _ (f1.trans (f2.trans ((Fr.same s1).trans (f3.trans (Fr.same (s2.trans s3)))))) (((P3.same s2).same s3).mono (by omega)) ⟨t1, t2, upd_same, s3 _ _ (s2 _ _ (f3 _ _ nt1 upd_same)), s3 _ _ upd_same, l1, l2, u1, u2⟩
    · have w2 : 2 ≤ way := by
        by_cases c : way < 2
        · exact absurd (decide_eq_true c) e
        · omega
      show tSeq (tAsg (tCB (rSorted K) (tCons (tLc (iRng1 (tCons (tVar 2) tNil)) (gName 7) tYes (tUp 1) [7]) tNil)) (gName 4)) _ _ _ _
      refine seqAsg (tcb_run (lc_draw (te := tUp 1) (sl := 7) (len := b) (m := a) (n := n + 1) (p := p) (fun v => rfl) hb (fun R h => ⟨.int (b : Int), rfl, h⟩) P1 (fun j G R hj pt kk => up_ok (a := a) (n := n + 1 + 3 * j) rfl rfl pt (by omega) ha fun d G' f P d0 d1 => kk d G' f (P.mono (by omega)) d0 d1) fun D vs G2 f2 P2 nD nDp hD l1 u1 => ?_))
      refine ⟨D, vs, rfl, .inl (.inl hD), by omega, fun xs lx pm srt nlx => ?_⟩
      have sx := same_upd (o := .lst (xs.map V.int)) nlx
      have nlxp : lx ≠ p := P2.ne nlx
      have l1' : xs.length = b := by rw [pm.length_eq, l1]
      have u1' : Upto a xs := fun v hv => u1 v (pm.mem_iff.mp hv)
      have P3 := P2.new (o := .lst (xs.map V.int)) nlx
      have f3 : Fr p H (upd G2 lx (.lst (xs.map V.int))) := f1.trans (f2.trans (Fr.same sx))
      have hx3 : (upd G2 lx (.lst (xs.map V.int))) lx = some (.lst (xs.map V.int)) := upd_same
      generalize upd G2 lx (.lst (xs.map V.int)) = G3 at P3 f3 hx3
      -- the counts
      refine ⟨.int (a : Int), rfl, (a : Int), rfl, by omega, by omega, fun ly nly => ?_⟩
      refine lc_range (lo := 0) (n := a) (fun i G => Same G3 G ∧ G ly = some (.lst (((List.range i).map fun i => upCount xs i).map V.int))) ⟨same_upd nly, upd_same⟩ ?_ ?_
      · rintro i G hi ⟨sm, hly⟩
        rw [Int.zero_add]
        have hxG := sm _ _ hx3
        refine ⟨rfl, .ref lx, rfl, lx, rfl, ⟨_, .inl (.inl hxG)⟩, fun D2 nD2 => ?_⟩
        refine lc_list (xs := xs.map V.int) (fun m G' => Same G G' ∧ G' D2 = some (.lst (((xs.take m).filter fun x => decide (x ≤ (i : Int))).map V.int))) ⟨same_upd nD2, upd_same⟩ (fun m G' _ h => .inl (.inl (h.1 _ _ hxG))) ?_ ?_
        · rintro m x G' hx ⟨s2, h2⟩
          have hm : m < xs.length := by
            have := (List.getElem?_eq_some_iff.mp hx).1
            rw [List.length_map] at this
            exact this
          have ex : x = .int xs[m] := by
            rw [List.getElem?_map, List.getElem?_eq_getElem hm] at hx
            exact (Option.some.inj hx).symm
          subst ex
          have tk : (xs.take (m + 1)).filter (fun x => decide (x ≤ (i : Int))) = (xs.take m).filter (fun x => decide (x ≤ (i : Int))) ++ if xs[m] ≤ (i : Int) then [xs[m]] else [] := by
            rw [List.take_add_one, List.getElem?_eq_getElem hm, List.filter_append]
            congr 1
            show List.filter _ [xs[m]] = _
            by_cases c : xs[m] ≤ (i : Int)
            · simp [c]
            · simp [c]
          refine ⟨rfl, .int xs[m], rfl, .int (i : Int), rfl, _, _, rfl, rfl, _, rfl, ite2 (fun c => ?_) (fun c => ?_)⟩
          · have c' := of_decide_eq_true c
            refine ⟨.int xs[m], rfl, _, h2, ?_, ?_, ?_⟩
            · rw [List.length_map]
              refine Nat.lt_of_le_of_lt (List.length_filter_le _ _) (Nat.lt_of_lt_of_le (show (xs.take m).length < 1000 by rw [List.length_take]; omega) (by decide))
            · intro b' o e'
              rw [upd_ne (ne_of_none e' nD2)]
              exact s2 _ _ e'
            · rw [upd_same, tk, if_pos c', List.map_append]
              rfl
          · have c' : ¬ xs[m] ≤ (i : Int) := fun z => c (decide_eq_true z)
            rw [tk, if_neg c', List.append_nil]
            exact ⟨s2, h2⟩
        · rintro G' ⟨s2, h2⟩
          rw [List.take_of_length_le (by rw [List.length_map]; exact Nat.le_refl _)] at h2
          refine ⟨D2, _, rfl, .inl (.inl (.inl h2)), _, s2 _ _ hly, ?_, ?_, ?_⟩
          · rw [List.length_map, List.length_map, List.length_range]
            exact Nat.lt_of_lt_of_le (show i < 1000 by omega) (by decide)
          · intro b' o e'
            rw [upd_ne (ne_of_none e' nly)]
            exact s2 _ _ (sm _ _ e')
          · rw [upd_same, List.range_succ, List.map_append, List.map_append, List.length_map]
            rfl
      · rintro G4 ⟨s4, h4⟩
        have hx4 := s4 _ _ hx3
        have P4 := P3.same s4
        have f4 := f3.trans (Fr.same s4)
        have nlyp : ly ≠ p := P3.ne nly
        have nxy : lx ≠ ly := ne_of_none hx3 nly
        have lys : ((List.range a).map fun i => upCount xs i).length = a := by rw [List.length_map, List.length_range]
        have uys : Upto b ((List.range a).map fun i => upCount xs i) := fun v hv => by
          obtain ⟨i, _, rfl⟩ := List.mem_map.mp hv
          exact upCount_le l1' i
        generalize (List.range a).map (fun i => upCount xs i) = ys at h4 lys uys
        have nH : ∀ z, z ≠ p → G3 z = none → H z = none := fun z nz h => f3.free nz h
        have nHx : H lx = none := (f1.trans f2).free nlxp nlx
        have nHy : H ly = none := nH ly nlyp nly
        refine gName_run ?_
        refine ⟨.int way, rfl, _, _, rfl, rfl, (by show (0 : Int) < 2; decide), rfl, _, rfl, ite2 (fun c => ?_) (fun c => ?_)⟩
        · refine ⟨.ref lx, rfl, lx, rfl, ⟨_, .inl (.inl hx4)⟩, fun D3 nD3 => ?_⟩
          refine lc_list (xs := xs.map V.int) (fun m G' => Same G4 G' ∧ G' D3 = some (.lst (((xs.take m).map fun x => (a : Int) - x).map V.int))) ⟨same_upd nD3, upd_same⟩ (fun m G' _ h => .inl (.inl (h.1 _ _ hx4))) ?_ ?_
          · rintro m x G' hx ⟨s5, h5⟩
            have hm : m < xs.length := by
              have := (List.getElem?_eq_some_iff.mp hx).1
              rw [List.length_map] at this
              exact this
            have ex : x = .int xs[m] := by
              rw [List.getElem?_map, List.getElem?_eq_getElem hm] at hx
              exact (Option.some.inj hx).symm
            subst ex
            refine ⟨rfl, .int (a : Int), rfl, .int xs[m], rfl, _, _, rfl, rfl, _, h5, ?_, ?_, ?_⟩
            · rw [List.length_map, List.length_map, List.length_take]
              exact Nat.lt_of_le_of_lt (Nat.min_le_left _ _) (Nat.lt_of_lt_of_le (show m < 1000 by omega) (by decide))
            · intro b' o e'
              rw [upd_ne (ne_of_none e' nD3)]
              exact s5 _ _ e'
            · rw [upd_same, List.take_add_one, List.getElem?_eq_getElem hm, List.map_append, List.map_append]
              rfl
          · rintro G5 ⟨s5, h5⟩
            rw [List.take_of_length_le (by rw [List.length_map]; exact Nat.le_refl _)] at h5
            have h4' := s5 _ _ h4
            refine ⟨.ref ly, rfl, ly, _, rfl, .inl (.inl h4'), fun D4 nD4 => ⟨by show 2 ≤ sizeLine; decide, fun T nT => ?_⟩⟩
            have s6 := same_upd (o := .lst (ys.map V.int).reverse) nD4
            have s7 := same_upd (o := .tup [.ref D3, .ref D4]) nT
            refine ⟨T, _, rfl, .inl (.inl upd_same), rfl, _, _, rfl, _, _, rfl, rfl, ?_⟩
            have s57 := s5.trans (s6.trans s7)
            have nD3p : D3 ≠ p := P4.ne nD3
            have nD4p : D4 ≠ p := (P4.same s5).ne nD4
            refine rest_ok (H0 := H) (n := n + 1 + 3 * b) (xs := xs.map fun x => (a : Int) - x) (ys := ys.reverse) w2 w1 ha hb (f4.trans (Fr.same s57)) (P4.same s57) (by omega) ((f4.free nD3p) nD3) ((f4.trans (Fr.same s5)).free nD4p nD4) nD3p nD4p (ne_of_none h5 nD4) (s7 _ _ (s6 _ _ h5)) ?_ ?_ ?_ ?_ ?_ fun t xs' ys' G' fr' pt' pk => q t xs' ys' G' fr' (pt'.mono (by omega)) pk
            · rw [← List.map_reverse] at s7 ⊢
              exact s7 _ _ (by rw [upd_same, List.map_reverse])
            · rw [List.length_map]; exact l1'
            · rw [List.length_reverse]; exact lys
            · intro v hv
              obtain ⟨x, hx, rfl⟩ := List.mem_map.mp hv
              have := u1' x hx
              omega
            · intro v hv
              exact uys v (List.mem_reverse.mp hv)
        · exact rest_ok (H0 := H) (n := n + 1 + 3 * b) w2 w1 ha hb f4 P4 (by omega) nHx nHy nlxp nlyp nxy hx4 h4 l1' lys u1' uys fun t xs' ys' G' fr' pt' pk => q t xs' ys' G' fr' (pt'.mono (by omega)) pk
end
end C2

namespace C2
set_option Elab.async false
set_option linter.all false
set_option maxRecDepth 100000
set_option maxHeartbeats 4000000
open PySem PySem.Spec PyProof.Rows L2
/-! ### zip of a list and a tuple -/
def ItLT (K : PySem.W.Frag) (a b : Addr) : It :=
  ⟨fun j G => ∃ (us vs : List V) (u v : V), SqL K G a us ∧ SqT K G b vs ∧ us[j]? = some u ∧ vs[j]? = some v,
    fun j G r G' => ∃ T u v, r = .ref T ∧ G T = none ∧ G' = upd G T (.tup [u, v]) ∧ (∀ us, SqL K G a us → us[j]? = some u) ∧ ∀ vs, SqT K G b vs → vs[j]? = some v,
    fun j G => ∃ us vs : List V, SqL K G a us ∧ SqT K G b vs ∧ j ≤ us.length ∧ j ≤ vs.length ∧ (j = us.length ∨ j = vs.length)⟩
def tnLT (a b z TI TO i1 i2 : Addr) (j : Nat) (h : Heap) : Prop :=
  IsZip h z TI TO .none ∧ IsTupOf2 h TI (.ref i1) (.ref i2) ∧ (∃ u v, IsTupOf2 h TO u v) ∧ h.IsListIter i1 a j ∧ h.IsTupleIter i2 b j
theorem in5 {c z TI TO i1 i2 : Addr} (h : c ∈ [z, TI, TO, i1, i2]) : c = z ∨ c = TI ∨ c = TO ∨ c = i1 ∨ c = i2 := by simpa using h
theorem turnLT {P : Program} {w : World} {K : PySem.W.Frag} {elts : List Expr} {kk : Nat} {tpos : Pos} {a b z TI TO i1 i2 : Addr} (S : ZipSep2 z TI TO i1 i2 [i1, a] [i2, b]) :
    Turn P w K (.Tuple elts kk tpos) (ItLT K a b) [z, TI, TO, i1, i2] z (tnLT a b z TI TO i1 i2) where
  mem := by simp
  obj := by
    rintro j h ⟨q1, q2, ⟨u, v, q3⟩, ⟨o4, q4, _, d4⟩, ⟨o5, q5, _, d5⟩⟩ c hc
    rcases in5 hc with rfl | rfl | rfl | rfl | rfl
    · exact ⟨_, q1, fun _ e => nomatch e⟩
    · exact ⟨_, q2, fun _ e => nomatch e⟩
    · exact ⟨_, q3, fun _ e => nomatch e⟩
    · exact ⟨o4, q4, fun _ e => by rw [d4] at e; cases e⟩
    · exact ⟨o5, q5, fun _ e => by rw [d5] at e; cases e⟩
  keep := by
    rintro j h h' ⟨q1, q2, ⟨u, v, q3⟩, q4, q5⟩ kp
    exact ⟨kp z (by simp) _ q1, kp TI (by simp) _ q2, ⟨u, v, kp TO (by simp) _ q3⟩, q4.at fun o e => kp i1 (by simp) o e, q5.at fun o e => kp i2 (by simp) o e⟩
  item := by
    intro X hP hw hK hc j pins s σ G E I hf st hg
    subst hP hw hK
    obtain ⟨q1, q2, ⟨u0, v0, q3⟩, q4, q5⟩ := st
    obtain ⟨us, vs, u, v, su, sv, gu, gv⟩ := hg
    obtain ⟨uits, ru, pu, _⟩ := I.list su
    obtain ⟨vits, rv, pv, _⟩ := I.tuple sv
    obtain ⟨uu, huu, ruu⟩ := ru.get gu
    obtain ⟨vv, hvv, rvv⟩ := rv.get gv
    have hd : X.A.handled = none := I.ok.hd hc
    have hzl : z < s.heap.objs.size := Heap.lt_size q1
    have ne1 : a ≠ i1 := fun e => by
      obtain ⟨o4, e4, c4, _⟩ := q4
      obtain ⟨o, oe, oc, _⟩ := pu.isList
      rw [e, e4] at oe
      cases oe
      rw [c4] at oc
      exact absurd oc (by decide)
    have ne2 : b ≠ i2 := fun e => by
      obtain ⟨o4, e4, c4, _⟩ := q5
      obtain ⟨o, oe, oc, _⟩ := pv
      rw [e, e4] at oe
      cases oe
      rw [c4] at oc
      exact absurd oc (by decide)
    have D1 := Draws.list (prog := X.prog) (w := X.w) (A := X.A.in1) hd i1 a ne1 uits.toArray
    have D2 := Draws.tuple (prog := X.prog) (w := X.w) (A := X.A.in1) hd i2 b ne2 vits.toArray
    have l1 : j < uits.toArray.size := by
      have := (List.getElem?_eq_some_iff.mp huu).1
      simpa using this
    have l2 : j < vits.toArray.size := by
      have := (List.getElem?_eq_some_iff.mp hvv).1
      simpa using this
    refine wpAny_pyNext_zipD2_item S D1 D2 q1 q2 q3 ⟨q4, pu.isList⟩ ⟨q5, pv⟩ l1 l2 fun x1 x2 h' tk e1 e2 n1 n3 n4 n5 nT nsz nk => ?_
    have ex1 : x1 = uu := Option.some.inj (e1.symm.trans (by simpa using huu))
    have ex2 : x2 = vv := Option.some.inj (e2.symm.trans (by simpa using hvv))
    subst ex1 ex2
    refine ⟨_, rfl, wpAny_letOwnedTupleGo_zip (s := { s with heap := h', toks := tk }) n1 fun h'' m1 sb => ?_⟩
    have mT : h''.get? s.heap.objs.size = some { cls := .type "tuple", data := .seq #[x1, x2] } := (sb.2 _ (Nat.ne_of_gt hzl)).trans nT
    have new : ObjOk X.prog X.w (upd G s.heap.objs.size (.tup [u, v])) h'' s.heap.objs.size (.tup [u, v]) :=
      ⟨by show 2 ≤ sizeLine; decide, [x1, x2], .cons ruu (.cons rvv .nil), ⟨_, mT, rfl, _, rfl⟩⟩
    have I1 : Inv X pins σ (upd G s.heap.objs.size (.tup [u, v])) { s with heap := h'', toks := tk } :=
      I.turnedNew (t' := tk) (ch := [z, TI, TO, i1, i2]) (fun c o hb q => (sb.2 c (fun e => hb (by simp [e]))).trans
        (nk c o (fun e => hb (by simp [e])) (fun e => hb (by simp [e])) (fun e => hb (by simp [e])) (fun e => hb (by simp [e])) q)) hf (Nat.le_refl _) new
    refine ⟨.ref s.heap.objs.size, _, I1, rfl, ⟨_, u, v, rfl, I.hok.fresh (Nat.le_refl _), rfl, fun l hl => ?_, fun l hl => ?_⟩, ⟨m1, ?_, ⟨x1, x2, ?_⟩, ?_, ?_⟩, fun c hcm => ?_⟩
    · rw [I.list_inj hl su]; exact gu
    · rw [I.tuple_inj hl sv]; exact gv
    · exact (sb.2 _ S.TIz).trans (nk _ _ S.TIz S.TITO S.TIi1 S.TIi2 q2)
    · exact (sb.2 _ S.TOz).trans n3
    · exact n4.1.at fun o e => (sb.2 _ S.zi1.symm).trans e
    · exact n5.1.at fun o e => (sb.2 _ S.zi2.symm).trans e
    · have low : c < s.heap.objs.size := by
        rcases in5 hcm with rfl | rfl | rfl | rfl | rfl
        · exact hzl
        · exact Heap.lt_size q2
        · exact Heap.lt_size q3
        · obtain ⟨_, y, _⟩ := q4; exact Heap.lt_size y
        · obtain ⟨_, y, _⟩ := q5; exact Heap.lt_size y
      rw [upd_ne (Nat.ne_of_lt low)]
      exact (hf c hcm).1
  done := by
    intro X hP hw hK hc j pins s σ G E I hf st hg
    subst hP hw hK
    obtain ⟨q1, q2, ⟨u0, v0, q3⟩, q4, q5⟩ := st
    obtain ⟨us, vs, su, sv, b1, b2, b3⟩ := hg
    obtain ⟨uits, ru, pu, _⟩ := I.list su
    obtain ⟨vits, rv, pv, _⟩ := I.tuple sv
    have hd : X.A.handled = none := I.ok.hd hc
    have ne1 : a ≠ i1 := fun e => by
      obtain ⟨o4, e4, c4, _⟩ := q4
      obtain ⟨o, oe, oc, _⟩ := pu.isList
      rw [e, e4] at oe
      cases oe
      rw [c4] at oc
      exact absurd oc (by decide)
    have ne2 : b ≠ i2 := fun e => by
      obtain ⟨o4, e4, c4, _⟩ := q5
      obtain ⟨o, oe, oc, _⟩ := pv
      rw [e, e4] at oe
      cases oe
      rw [c4] at oc
      exact absurd oc (by decide)
    have D1 := Draws.list (prog := X.prog) (w := X.w) (A := X.A.in1) hd i1 a ne1 uits.toArray
    have D2 := Draws.tuple (prog := X.prog) (w := X.w) (A := X.A.in1) hd i2 b ne2 vits.toArray
    have l1 := ru.length
    have l2 := rv.length
    refine wpAny_pyNext_zipD2_end S D1 D2 q1 q2 q3 ⟨q4, pu.isList⟩ ⟨q5, pv⟩ (by simp; omega) (by simp; omega) (by simp; omega) fun h' tk nk => ⟨rfl, ?_⟩
    exact I.turnedL (t' := tk) (ch := [z, TI, TO, i1, i2]) (fun c o hb q =>
      nk c o (fun e => hb (by simp [e])) (fun e => hb (by simp [e])) (fun e => hb (by simp [e])) (fun e => hb (by simp [e])) q) hf
  self := fun A j s Q E st h => wpAny_pyIter_zip st.1 h
def iZipLT (K : PySem.W.Frag) (ta : TA) : TI := fun σ G R => ta σ G fun vs G1 => ∃ a b us ys, vs = [.ref a, .ref b] ∧ SqL K G1 a us ∧ SqT K G1 b ys ∧ R (ItLT K a b) G1
theorem pi_zipLT {X : Cx} {e e2 : Expr} {ta : TA} {p pos tpos : Pos} {elts : List Expr} {kk : Nat} (hg : Gl X "zip") (hm : X.mg "zip" = none) (ha : PA X [e, e2] ta)
    (plainArgs : starEach [e, e2] X.env = (false, eval e X.env) :: starEach [e2] X.env := by rfl)
    (noStar : (backTo pos (starEach [e2] X.env)).any (·.1) = false := by rfl) :
    PI X (.Tuple elts kk tpos) (.Call (.Name "zip" p) [e, e2] [] pos) (iZipLT X.K ta) := by
  refine ⟨fun pins s σ G R I h => Call_ (ld_blt I hg hm PyProof.Rows.boot_zip (PyProof.Rows.callWith_type1 (thn (ha.run pos pins s σ G _ I h) fun us s1 ⟨vs, G1, I1, r1, q1⟩ => ?_) plainArgs noStar))⟩
  obtain ⟨a, b, xs, ys, rfl, sx, sy, q⟩ := q1
  cases r1 with
  | cons r rr => cases rr with
    | cons r' rr =>
      cases rr
      cases r
      cases r'
      obtain ⟨uits, ru, pu, _⟩ := I1.list sx
      obtain ⟨vits, rv, pv, _⟩ := I1.tuple sy
      obtain ⟨oa, ea, _⟩ := id pu.isList
      obtain ⟨ob, eb, _⟩ := id pv
      have S := zip_sep2 (N := s1.heap.objs.size) (fp1 := [a]) (fp2 := [b]) (fun c hc => by rw [List.mem_singleton.mp hc]; exact Heap.lt_size ea) (fun c hc => by rw [List.mem_singleton.mp hc]; exact Heap.lt_size eb)
      refine zip_begins2 (begins_list a uits.toArray) (begins_tuple b vits.toArray) pu.isList pv fun h' g1 g2 g3 g4 g5 gsz gk => wpAny_pyIter_zip g1 ?_
      refine ⟨s1.heap.objs.size + 4, [s1.heap.objs.size + 4, s1.heap.objs.size + 2, s1.heap.objs.size + 3, s1.heap.objs.size, s1.heap.objs.size + 1], _, _, G1, rfl, I1.kept (t' := s1.toks) gk, turnLT S,
        ⟨g1, g2, ⟨_, _, g3⟩, ⟨_, g4, rfl, rfl⟩, ⟨_, g5, rfl, rfl⟩⟩, fun c hc => ?_, q⟩
      have above : s1.heap.objs.size ≤ c := by
        rcases in5 hc with rfl | rfl | rfl | rfl | rfl
        · exact Nat.le_add_right _ _
        · exact Nat.le_add_right _ _
        · exact Nat.le_add_right _ _
        · exact Nat.le_refl _
        · exact Nat.le_add_right _ _
      exact I1.fpOk above (I1.hok.fresh above)
theorem walkLT {K : PySem.W.Frag} {a b : Addr} {xs ys : List V} {n : Nat} (h1 : xs.length = n) (h2 : ys.length = n) : Walk (ItLT K a b) n (fun G => SqL K G a xs ∧ SqT K G b ys) (YPair (fun i => xs[i]?) (fun i => ys[i]?)) := by
  refine ⟨fun i G hi q => ⟨xs, ys, xs[i]'(by omega), ys[i]'(by omega), q.1, q.2, List.getElem?_eq_getElem _, List.getElem?_eq_getElem _⟩, fun G q => ⟨xs, ys, q.1, q.2, by omega, by omega, by omega⟩, fun i G v G' _ q y => ?_⟩
  obtain ⟨T, u, v, e1, e2, e3, e4, e5⟩ := y
  exact ⟨T, u, v, e1, e2, e3, e4 xs q.1, e5 ys q.2⟩
/-! ### repr of data -/
def rReprD (K : PySem.W.Frag) : List V → Hp → VK → Prop := fun xs G Q => ∃ a d, xs = [.ref a] ∧ Dp K G (.ref a) d ∧ d.showable = true ∧ d.hasDict = false ∧ d.depth ≤ 60 ∧ d.shown.length ≤ sizeLine ∧ Q (.str d.shown) G
theorem call_reprD {X : Cx} (hu : X.A.units + 64 < cLine) (hgd : X.A.guards = some []) : CallR X (.builtin "repr") (rReprD X.K) := by
  intro pins s σ G xs us Q I r h
  obtain ⟨a, d, rfl, hd, s1, s2, s3, s4, q⟩ := h
  obtain ⟨given, rfl, rel⟩ := vals1 r
  obtain ⟨as, rd⟩ := Dp.reads I d _ _ hd rel
  cases rel
  refine repr_of_reads' rd s1 (fun e => by rw [s2] at e; cases e) hgd (by omega) (fun _ _ e => e) (fun h' t tk kp => ?_) s4
  exact ⟨.str d.shown, G, I.kept (t' := tk) kp, ⟨_, rfl⟩, q⟩
end C2

namespace C2
set_option Elab.async false
set_option linter.all false
set_option maxRecDepth 100000
set_option maxHeartbeats 4000000
open PySem PySem.Spec PyProof.Rows L2
/-! ### a def's promise where no repr is under way -/
structure FnG (P : Program) (w : World) (K : PySem.W.Frag) (mg : Str → Option Value) (base : Heap) (k : Nat) (f : Addr) (fd : FuncData) (ps : List Str) (sp : Sp) : Prop where
  len : ∀ vs G Q E, sp vs G Q E → vs.length = ps.length
  run : ∀ (A : Around) (outer : List Env) (s : Shared) (G : Hp) (args : Args) (us : List Value) (vs : List V) (Q : VK) (E : XK), A.guards = some [] → Room k A →
    Env0 P w K mg base A outer s G → BindsTo s fd args (ps.zip us) → Vals vs us → sp vs G Q E → codeAny (model P w) A (.call (.ref f) args) (CR CX0 outer P w G s Q E) s
section
variable {P : Program} {w : World} {K : PySem.W.Frag} {mg : Str → Option Value} {base : Heap}
theorem deeper_guards {A : Around} {env : Env} (h : A.guards = some []) : (A.deeper env).guards = some [] := h
theorem okG {x qual : Str} {st : Stmt} {f : Addr} {fd : FuncData} {N ps : List Str} {k : Nat} {sp : Sp} (F : Fun K x qual st f fd) (S : FnScope N ps (defScope st)) (len : ∀ vs G Q E, sp vs G Q E → vs.length = ps.length)
    (body : ∀ (cdv : Value) (A : Around) (outer : List Env) (s : Shared) (G : Hp) (vs : List V) (Q : VK) (E : XK), A.guards = some [] → Room k (A.deeper (envOfC qual (defScope st) s.heap.objs.size f cdv)) → sp vs G Q E →
      ∃ t, PSs (cxOf CX0 P w K mg base N qual (defScope st) f cdv A outer s G E).nox (defBody st) t ∧ t { nx := fun _ G' => Q .non G', rt := Q } (start N vs) G) : FnG P w K mg base (k + 1) f fd ps sp := by
  obtain ⟨v1, v2, v3, v4, v5, v6, cdv, v7, v8, rfl, lk, hcd⟩ := F.ex
  refine ⟨len, fun A outer s G args us vs Q E hgd hr e0 hb r hsp => ?_⟩
  have ln := len vs G Q E hsp
  have inK : K.In s.heap := e0.mod.kin.keeps fun c y e => (e0.bs c y e).left
  have noL : s.heap.NoLimit := e0.mod.nolimit.keeps fun c y e => (e0.bs c y e).left
  refine codeAny_call_function hr.depth (inK _ _ lk) rfl S.co S.gen rfl (PySem.W.codeRec_of inK hcd) (hb _ _ _ _ ?_)
  refine wpAny_newFunctionEnv_cells S.kind (fun y hy => ?_) fun env he s1 x => ?_
  · rcases S.par y.1 (List.of_mem_zip (a := y.1) (b := y.2) hy).1 with q | q
    · exact Or.inl q
    · exact Or.inr ⟨q, PySem.W.cellsFrom_some _ _ _ (Or.inl q)⟩
  · subst he
    refine ⟨noL.keeps x.toInCall.keep, codeAny_func ?_⟩
    obtain ⟨t, ht, hq⟩ := body cdv A outer s G vs Q E hgd (hr.deeper _) hsp
    have J0 := inv_start (CX := CX0) (E := E) S hr.hd e0 ln r x
    refine wpAny_mono (ht.nox.run [] s1 (start N vs) G _ J0 hq) (fun fl s' hs => ?_) fun _ _ hs => hs
    cases fl with
    | ret u =>
      obtain ⟨v, σ', G', J, rv, q⟩ := hs
      exact ⟨v, G', J.os, J.bare, J.base, J.hok, rv, q⟩
    | next =>
      obtain ⟨σ', G', J, q⟩ := hs
      exact ⟨V.non, G', J.os, J.bare, J.base, J.hok, rfl, q⟩
    | brk =>
      obtain ⟨_, _, _, q⟩ := hs
      exact q.elim
    | cont =>
      obtain ⟨_, _, _, q⟩ := hs
      exact q.elim
/-- what the law's own call leaves: True, and what stood before as it was -/
def Leaves (s₁ : Shared) : Except Value Flow → Shared → Prop := fun r s' => r = .ok (.ret (.bool true)) ∧ OldK s₁.heap s'.heap ∧
  s'.os = s₁.os ∧ AllBare s'.gens
/-- the law's own call -/
theorem law_callG {mb : Str → Option Value} {k : Nat} {fa a : Addr} {fd : FuncData} {x : Str} {sp : Sp} {s₁ : Shared} {vs : List Value} {ns : List Int}
    (inK : K.In s₁.heap) (hns : s₁.heap.Ns mainGlobals mg) (hb : s₁.heap.Ns builtinsNs mb) (hbb : ∀ x : Str, x ≠ "__name__" → mb x = bootBuiltins x) (hlim : s₁.heap.NoLimit) (hg : s₁.gens = #[])
    (hr : Room k callerA) (hl : ns.length ≤ sizeLine) (hi : IntsAre vs ns)
    (ha : s₁.heap.get? a = some { cls := .type "list", data := .seq vs.toArray })
    (F : ∀ base : Heap, K.In base → base.Ns mainGlobals mg → FnG P w K mg base k fa fd [x] sp) (hbind : ∀ (s : Shared) (u : Value), BindsTo s fd ⟨[u], []⟩ [(x, u)])
    (hsp : ∀ G : Hp, SqL K G a (ns.map V.int) → sp [.ref a] G (fun v _ => v = .bl true) fun _ _ _ => False) :
    codeAny (model P w) callerA (.call (.ref fa) ⟨[.ref a], []⟩) (Leaves s₁) s₁ := by
  have main : ∀ G : Hp, Only G → SqL K G a (ns.map V.int) → HOk P w G s₁.heap → (∀ b, G b ≠ none → b = a) → (G a ≠ none → K.lookup a = none) →
      codeAny (model P w) callerA (.call (.ref fa) ⟨[.ref a], []⟩) (Leaves s₁) s₁ := by
    intro G only sq hok one off
    have hid : ∀ {b : Addr} {y : Obj}, s₁.heap.get? b = some y → (G b = none) → (hidT s₁.heap G).get? b = some y := fun e n => hidT_get e n
    have dct : ∀ {b : Addr} {y : Obj} {es : Array DictEntry} {ep : Nat}, s₁.heap.get? b = some y → y.data = .dict es ep → G b = none := by
      intro b y es ep e d
      cases q : G b with
      | none => rfl
      | some u =>
        have z : b = a := one b (by rw [q]; exact Option.some_ne_none u)
        rw [z, ha] at e
        cases e
        exact absurd d (by intro c; cases c)
    have nsp : ∀ {b : Addr} {m : Str → Option Value}, s₁.heap.Ns b m → (hidT s₁.heap G).Ns b m := by
      rintro b m ⟨y, es, ep, e, d, r⟩
      exact ⟨y, es, ep, hid e (dct e d), d, r⟩
    have kb : K.In (hidT s₁.heap G) := by
      intro b y e
      refine hid (inK b y e) ?_
      cases q : G b with
      | none => rfl
      | some u =>
        have z : b = a := one b (by rw [q]; exact Option.some_ne_none u)
        rw [z] at q e
        rw [off (by rw [q]; exact Option.some_ne_none u)] at e
        cases e
    have md : Mod K mg (hidT s₁.heap G) := by
      refine ⟨kb, nsp hns, ⟨mb, nsp hb, hbb⟩, ?_⟩
      obtain ⟨mc, y1, y2⟩ := hlim
      exact ⟨mc, nsp y1, y2⟩
    have e0 : Env0 P w K mg (hidT s₁.heap G) callerA [] s₁ G :=
      ⟨rfl, md, fun b y e => of_hidT e, Nat.le_of_eq (hidT_size _ _), trivial, fun b z => absurd (show b ∈ ([] : List Addr) from z) List.not_mem_nil, hok, .of_eq hg⟩
    refine codeAny_mono ((F _ kb (nsp hns)).run callerA [] s₁ G ⟨[.ref a], []⟩ [.ref a] [.ref a] _ _ rfl hr e0 (hbind s₁ (.ref a)) (.cons rfl .nil) (hsp G sq)) fun r s' h => ?_
    cases r with
    | error e => exact False.elim h
    | ok fl => cases fl with
      | next => exact False.elim h
      | brk => exact False.elim h
      | cont => exact False.elim h
      | ret u =>
        obtain ⟨v, G', os, bare, un, hok', r', (q : v = .bl true)⟩ := h
        subst q
        cases (show u = Value.bool true from r')
        refine ⟨rfl, OldK.of_keep fun b y e => ?_, os, bare⟩
        cases q : G b with
        | none => exact un.keep b y e q (fun z => absurd (show b ∈ ([] : List Addr) from z) List.not_mem_nil) List.not_mem_nil
        | some u => rcases only b with z | ⟨ob, xs, z⟩
                    · rw [q] at z; cases z
                    · have f1 := (hok b _ z).1
                      have f2 := (hok' b _ (un.frzs b ob _ z)).1
                      rw [e] at f1
                      cases f1
                      exact f2
  have rv := vals_ints hi
  have ln := hi.length
  cases hk : K.lookup a with
  | some y =>
    have e := inK a y hk
    rw [ha] at e
    cases e
    exact main (fun _ => none) (fun _ => .inl rfl) (.inr ⟨_, vs.toArray, _, hk, rfl, rfl, rfl, by rw [List.size_toArray, ln]; exact hl, by simpa using rv⟩)
      (fun b u z => by cases (show (none : Option HO) = some u from z)) (fun b z => absurd rfl z) fun z => absurd rfl z
  | none =>
    obtain ⟨G, at_a, not_a⟩ : ∃ G : Hp, (∀ b, b = a → G b = some (.frz { cls := .type "list", data := .seq vs.toArray } (.lst (ns.map V.int)))) ∧ ∀ b, b ≠ a → G b = none :=
      ⟨fun b => if b = a then some (HO.frz { cls := .type "list", data := .seq vs.toArray } (.lst (ns.map V.int))) else none, fun b e => if_pos e, fun b e => if_neg e⟩
    refine main G (fun b => ?_) (.inl (.inr ⟨_, at_a a rfl⟩)) (fun b u z => ?_) (fun b z => ?_) fun _ => hk
    · by_cases c : b = a
      · exact .inr ⟨_, _, at_a b c⟩
      · exact .inl (not_a b c)
    · by_cases c : b = a
      · rw [at_a b c] at z
        cases z
        rw [c]
        refine ⟨ha, ?_, vs, _, rv, ha⟩
        rw [List.length_map]
        exact hl
      · rw [not_a b c] at z
        cases z
    · by_cases c : b = a
      · exact c
      · exact absurd (not_a b c) z
end
theorem walkG {l : PySem.W.OpenLaw} {n k : Nat} {q : Program} {loose : List Str} {XP : (Str → Option Value) → Heap → Prop} {YP : World → Heap → Prop} {d : DefRec} {K : Params → PySem.W.Frag} {sp : PySem.W.Frag → Sp} {x : Str}
    (most : l.most = some n) (short : n ≤ sizeLine) (bare : d.params.defaults = []) (room : Room k callerA)
    (stands : ∀ (w : World) (h : Heap), YP w h → (K w.params).In h)
    (promise : ∀ (w : World) (mg : Str → Option Value) (fa : Addr) (h : Heap), (K w.params).In h → h.Ns mainGlobals mg →
      mg d.name = some (.ref fa) →
      ∃ fd : FuncData, (∀ (s : Shared) (u : Value), BindsTo s fd ⟨[u], []⟩ [(x, u)]) ∧ ∀ base : Heap, (K w.params).In base → base.Ns mainGlobals mg → FnG l.prog w (K w.params) mg base k fa fd [x] (sp (K w.params)))
    (hsp : ∀ (K : PySem.W.Frag) (G : Hp) (a : Addr) (ns : List Int), ns.length ≤ n → SqL K G a (ns.map V.int) → sp K [.ref a] G (fun v _ => v = .bl true) fun _ _ _ => False) :
    PySem.W.WalkO q loose XP YP l.row.toRowW d []
      (fun f vs => PySem.call f vs) := by
  refine Att.attach_call most bare fun w _ s₁ mg mb fa _ _ _ _ a vs ns G Y _ _ _ hmg there nums few gens => ?_
  have inK := stands w _ Y
  obtain ⟨fd, binds, ok⟩ := promise w mg fa _ inK G.T.g hmg
  exact law_callG inK G.T.g G.T.b G.T.builtins G.T.nolimit gens room (Nat.le_trans few short) nums there ok binds fun H hS => hsp _ H a ns few hS
end C2

namespace C2
set_option Elab.async false
set_option linter.all false
set_option maxRecDepth 100000
set_option maxHeartbeats 4000000
open PySem PySem.Spec PyProof.Rows L2
section
variable {P : Program} {w : World} {K : PySem.W.Frag} {mg : Str → Option Value} {base : Heap}
theorem frSeq {p : Addr} {H H' : Hp} {a : Addr} {xs : List V} (e : Fr p H H') (n : a ≠ p) (h : SqL K H a xs) : SqL K H' a xs := by
  rcases h with (h | ⟨o, h⟩) | h
  · exact .inl (.inl (e _ _ n h))
  · exact .inl (.inr ⟨o, e _ _ n h⟩)
  · exact .inr h
def spOf (K : PySem.W.Frag) : Sp := fun vs H Q _ => ∃ (p a : Addr) (xs : List V) (n : Nat), vs = [.ref p, .ref a] ∧ PotAt H p n ∧ n < 1000000 ∧ a ≠ p ∧ SqL K H a xs ∧ 0 < xs.length ∧ xs.length < 1000000 ∧
  ∀ v H', Fr p H H' → PotAt H' p (n + 1) → v ∈ xs → Q v H'
theorem ok_of {f fT : Addr} {fd fdT : FuncData} {k : Nat} (F : Fun K "_law_of" "_law_of" sOf f fd) (FT : Fun K "_law_take" "_law_take" sTake fT fdT) (bT : Binds K fdT ["_law_pot_here", "_law_many"] []) (gT : mg "_law_take" = some (.ref fT)) (ml : mg "len" = none) : FnOk P w K mg base CX0 (k + 2) f fd ["_law_pot_here", "_law_some"] (spOf K) := by
  have GT : FnOk P w K mg base CX0 (k + 1) fT fdT ["_law_pot_here", "_law_many"] spTake := ok_take FT
  refine F.ok scOf (fun vs H Q E h => ?_) (fun cdv A outer s H vs Q E hr h => ?_)
  · obtain ⟨p, a, xs, n, rfl, _⟩ := h
    rfl
  · obtain ⟨p, a, xs, n, rfl, hP, hn, hap, hS, h0, h1, q⟩ := h
    refine ⟨_, pss_one (ps_ret (pe_ix ix_list (pv 1) (pe_call GT hr (by rfl) gT FT.kp bT .nil pass0 (pa_cons (pv 0) (pa_cons (pe_callB call_len_seq (by rfl) ml PySem.boot_len (pa_cons (pv 1) pa_nil)) pa_nil))) (fun _ _ => rfl))), ?_⟩
    refine ⟨.ref a, rfl, .ref p, rfl, .ref a, rfl, a, _, rfl, .inl hS, p, _, n, rfl, hP, hn, by omega, by omega, fun d H1 fr hP1 d0 d1 => ?_⟩
    have hd : d.toNat < xs.length := by omega
    have ed : d = (d.toNat : Int) := by omega
    refine ⟨a, _, d, xs[d.toNat], rfl, rfl, frSeq fr hap hS, at_of ed (List.getElem?_eq_getElem hd), ?_⟩
    exact q _ _ fr hP1 (List.getElem_mem hd)
def rLen (K : PySem.W.Frag) : List V → Hp → VK → Prop := fun xs H Q => ∃ p ys, xs = [.ref p] ∧ (SqL K H p ys ∨ SqT K H p ys) ∧ Q (.int (ys.length : Nat)) H
end
end C2

namespace C2
set_option Elab.async false
set_option linter.all false
set_option maxRecDepth 100000
set_option maxHeartbeats 4000000
open PySem PySem.Spec PyProof.Rows L2
abbrev vrefs (cs : List (Addr × List V)) : List V := cs.map fun c => V.ref c.1
def CellsV (G : Hp) (cs : List (Addr × List V)) : Prop := ∀ c ∈ cs, G c.1 = some (.tup c.2)
theorem CellsV.same {G G' : Hp} {cs : List (Addr × List V)} (h : CellsV G cs) (s : Same G G') : CellsV G' cs := fun c hc => s _ _ (h c hc)
def GrowV (xs : List (List V)) (H : Hp) (D : Addr) (G : Hp) : Prop := ∃ cs : List (Addr × List V), Same H G ∧ G D = some (.lst (vrefs cs)) ∧ CellsV G cs ∧ cs.map (·.2) = xs
theorem GrowV.step {xs : List (List V)} {y : List V} {H G G2 : Hp} {D T : Addr} (I : GrowV xs H D G) (lo : xs.length < 100000) (nD : H D = none) (sm2 : Same G G2) (nT : G T = none) (hT : G2 T = some (.tup y)) :
    ∃ acc, G2 D = some (.lst acc) ∧ acc.length < sizeLine ∧ GrowV (xs ++ [y]) H D (upd G2 D (.lst (acc ++ [.ref T]))) := by
  obtain ⟨cs, sm, hD, hcs, e⟩ := I
  have ln : cs.length < 100000 := by
    have e1 : cs.length = (cs.map (·.2)).length := (List.length_map _).symm
    rw [e1, e]
    exact lo
  have hne : T ≠ D := fun z => by rw [z, hD] at nT; cases nT
  refine ⟨vrefs cs, sm2 _ _ hD, ?_, cs ++ [(T, y)], ?_, ?_, ?_, ?_⟩
  · rw [List.length_map]
    exact Nat.lt_of_lt_of_le ln (by decide)
  · intro b o eb
    rw [upd_ne (ne_of_none eb nD)]
    exact sm2 _ _ (sm _ _ eb)
  · rw [upd_same]
    show _ = some (HO.lst (List.map _ (cs ++ [_])))
    rw [List.map_append]
    rfl
  · intro c hc
    rcases List.mem_append.mp hc with hc | hc
    · have hh := hcs c hc
      rw [upd_ne (ne_of hh hD (by intro z; cases z))]
      exact sm2 _ _ hh
    · rw [List.mem_singleton] at hc
      subst hc
      rw [upd_ne hne]
      exact hT
  · rw [List.map_append, e]
    rfl
theorem GrowV.len {xs : List (List V)} {H G : Hp} {D : Addr} (I : GrowV xs H D G) : ∃ ys, G D = some (.lst ys) ∧ ys.length = xs.length := by
  obtain ⟨cs, _, h, _, e⟩ := I
  exact ⟨_, h, by rw [List.length_map, ← e, List.length_map]⟩
theorem GrowV.ext {xs ys : List (List V)} {H G G' : Hp} {D l : Addr} (I : GrowV xs H l G) (J : GrowV ys G D G') (nl : H l = none) :
    ∃ as bs, G' l = some (.lst as) ∧ G' D = some (.lst bs) ∧ as.length = xs.length ∧ bs.length = ys.length ∧ GrowV (xs ++ ys) H l (upd G' l (.lst (as ++ bs))) := by
  obtain ⟨cs, sm, hl, hc, e⟩ := I
  obtain ⟨ds, sm2, hD, hd, e2⟩ := J
  have hl2 := sm2 _ _ hl
  refine ⟨_, _, hl2, hD, by rw [List.length_map, ← e, List.length_map], by rw [List.length_map, ← e2, List.length_map], cs ++ ds, ?_, ?_, ?_, ?_⟩
  · intro b o eb
    rw [upd_ne (ne_of_none eb nl)]
    exact sm2 _ _ (sm _ _ eb)
  · rw [upd_same]
    show _ = some (HO.lst (List.map _ (cs ++ ds)))
    rw [List.map_append]
  · intro c hcc
    rcases List.mem_append.mp hcc with hcc | hcc
    · have hh := sm2 _ _ (hc c hcc)
      rw [upd_ne (ne_of hh hl2 (by intro z; cases z))]
      exact hh
    · have hh := hd c hcc
      rw [upd_ne (ne_of hh hl2 (by intro z; cases z))]
      exact hh
  · rw [List.map_append, e, e2]
theorem getD_at {vs : List Int} {i : Nat} {x : V} (h : (vs.map V.int)[i]? = some x) : i < vs.length ∧ x = .int (vs.getD i 0) := by
  have hi : i < vs.length := by
    have := (List.getElem?_eq_some_iff.mp h).1
    rw [List.length_map] at this
    exact this
  refine ⟨hi, ?_⟩
  rw [List.getElem?_map, List.getElem?_eq_getElem hi] at h
  rw [List.getD_eq_getElem?_getD, List.getElem?_eq_getElem hi]
  exact (Option.some.inj h).symm
theorem atD {vs : List Int} {i : Nat} (hi : i < vs.length) : atI (vs.map V.int) (i : Int) = some (.int (vs.getD i 0)) := by
  refine atI_nat ?_
  rw [List.getElem?_map, List.getElem?_eq_getElem hi, List.getD_eq_getElem?_getD, List.getElem?_eq_getElem hi]
  rfl
/-- a thing: a tuple of these, or none -/
inductive Thg (G : Hp) : V → Option (List V) → Prop where
  | non : Thg G .non none
  | bl (b : Bool) : Thg G (.bl b) none
  | int (i : Int) : Thg G (.int i) none
  | str (x : Str) : Thg G (.str x) none
  | lst {a : Addr} {xs : List V} (e : G a = some (.lst xs)) : Thg G (.ref a) none
  | dK {a : Addr} {kvs : List (Key × V)} (e : G a = some (.dK kvs)) : Thg G (.ref a) none
  | tup {a : Addr} {xs : List V} (e : G a = some (.tup xs)) : Thg G (.ref a) (some xs)
theorem Thg.same {G G' : Hp} {v : V} {o : Option (List V)} (h : Thg G v o) (s : Same G G') : Thg G' v o := by
  cases h with
  | non => exact .non
  | bl b => exact .bl b
  | int i => exact .int i
  | str x => exact .str x
  | lst e => exact .lst (s _ _ e)
  | dK e => exact .dK (s _ _ e)
  | tup e => exact .tup (s _ _ e)
def isIB : V → Bool
  | .int _ => true
  | .bl _ => true
  | _ => false
def isBo : V → Bool
  | .bl _ => true
  | _ => false
def isSt : V → Bool
  | .str _ => true
  | _ => false
def isIn : V → Bool
  | .int _ => true
  | _ => false
theorem isIn_int : ∀ {v : V}, isIn v = true → ∃ i, v = .int i
  | .int i, _ => ⟨i, rfl⟩
theorem isIB_not : ∀ {v : V}, isIB v = true → (!isBo v) = isIn v
  | .int _, _ => rfl
  | .bl _, _ => rfl
theorem isIB_int : ∀ {v : V}, isIB v = true → isBo v = false → ∃ i, v = .int i
  | .int i, _, _ => ⟨i, rfl⟩
theorem isIB_no : ∀ {v : V}, ¬ isIB v = true → isIn v = false
  | .int _, e => absurd rfl e
  | .bl _, _ | .non, _ | .str _, _ | .byt _, _ | .flt _, _ | .ref _, _ | .ty _, _ => rfl
theorem isSt_str : ∀ {v : V}, isSt v = true → ∃ x, v = .str x
  | .str x, _ => ⟨x, rfl⟩
def betw : V → Int → Int → Bool
  | .int i, lo, hi => decide (lo ≤ i ∧ i ≤ hi)
  | _, _, _ => false
theorem betw_no : ∀ {v : V} {lo hi : Int}, isIn v = false → betw v lo hi = false
  | .bl _, _, _, _ | .non, _, _, _ | .str _, _, _, _ | .byt _, _, _, _ | .flt _, _, _, _ | .ref _, _, _, _ | .ty _, _, _, _ => rfl
theorem Thg.some_tup {G : Hp} {v : V} {xs : List V} (h : Thg G v (some xs)) : ∃ a, v = .ref a ∧ G a = some (.tup xs) := by
  cases h with
  | tup e => exact ⟨_, rfl, e⟩
theorem Thg.kit {K : PySem.W.Frag} {G : Hp} {v : V} {o : Option (List V)} (h : Thg G v o) : ∃ n, TyX K G v (.type n) ∧ kitB n "int" = some (isIB v) ∧ kitB n "bool" = some (isBo v) ∧ kitB n "tuple" = some o.isSome ∧ kitB n "str" = some (isSt v) := by
  cases h with
  | non => exact ⟨_, .base .non, by decide +kernel, by decide +kernel, by decide +kernel, by decide +kernel⟩
  | bl b => exact ⟨_, .base (.bl b), (by decide +kernel : kitB "bool" "int" = some true), (by decide +kernel : kitB "bool" "bool" = some true), by decide +kernel, (by decide +kernel : kitB "bool" "str" = some false)⟩
  | int i => exact ⟨_, .base (.int i), (by decide +kernel : kitB "int" "int" = some true), (by decide +kernel : kitB "int" "bool" = some false), by decide +kernel, (by decide +kernel : kitB "int" "str" = some false)⟩
  | str x => exact ⟨_, .base (.str x), (by decide +kernel : kitB "str" "int" = some false), (by decide +kernel : kitB "str" "bool" = some false), by decide +kernel, (by decide +kernel : kitB "str" "str" = some true)⟩
  | lst e => exact ⟨_, .base (.lst e), (by decide +kernel : kitB "list" "int" = some false), (by decide +kernel : kitB "list" "bool" = some false), by decide +kernel, (by decide +kernel : kitB "list" "str" = some false)⟩
  | dK e => exact ⟨_, .base (.dK e), (by decide +kernel : kitB "dict" "int" = some false), (by decide +kernel : kitB "dict" "bool" = some false), by decide +kernel, (by decide +kernel : kitB "dict" "str" = some false)⟩
  | tup e => exact ⟨_, .base (.tup e), (by decide +kernel : kitB "tuple" "int" = some false), (by decide +kernel : kitB "tuple" "bool" = some false), (by decide +kernel : kitB "tuple" "tuple" = some true), (by decide +kernel : kitB "tuple" "str" = some false)⟩
section
variable {P : Program} {w : World} {K : PySem.W.Frag} {mg : Str → Option Value} {base : Heap}
theorem scPWhole : FnScope ["thing"] ["thing"] (defScope sPWhole) := ⟨rfl, rfl, rfl, by decide +kernel, rfl, by decide +kernel, by decide +kernel⟩
theorem scBetween : FnScope ["thing", "least", "most"] ["thing", "least", "most"] (defScope sBetween) := ⟨rfl, rfl, rfl, by decide +kernel, rfl, by decide +kernel, by decide +kernel⟩
theorem scTupOf : FnScope ["thing", "many"] ["thing", "many"] (defScope sTupOf) := ⟨rfl, rfl, rfl, by decide +kernel, rfl, by decide +kernel, by decide +kernel⟩
def spPWhole : Sp := fun vs H Q _ => ∃ v o, vs = [v] ∧ Thg H v o ∧ Q (.bl (isIn v)) H
theorem ok_pwhole {f : Addr} {fd : FuncData} {k : Nat} (F : Fun K "is_whole" "is_whole" sPWhole f fd) (mi : mg "isinstance" = none) (mint : mg "int" = none) (mbool : mg "bool" = none) : FnOk P w K mg base CX0 (k + 1) f fd ["thing"] spPWhole := by
  refine F.ok scPWhole (fun vs H Q E h => ?_) (fun cdv A outer s H vs Q E hr h => ?_)
  · obtain ⟨v, o, rfl, _⟩ := h
    rfl
  · obtain ⟨v, o, rfl, t, q⟩ := h
    obtain ⟨n, ty, k1, k2, _, _⟩ := t.kit (K := K)
    refine ⟨_, pss_one (ps_ret (pe_and (pe_callB call_isi (by rfl) mi (by decide +kernel) (pa_cons (pv 0) (pa_cons (pe_bltn (v := .ty "int") (by rfl) mint (by decide +kernel) rfl) pa_nil))) (pe_one (pe_not (pe_callB call_isi (by rfl) mi (by decide +kernel) (pa_cons (pv 0) (pa_cons (pe_bltn (v := .ty "bool") (by rfl) mbool (by decide +kernel) rfl) pa_nil))))))), ?_⟩
    refine ⟨v, rfl, v, .ty "int", _, _, _, rfl, .ty "int", ty, kit_ty k1, _, rfl, ite2 (fun e => ?_) (fun e => ?_)⟩
    · refine ⟨v, rfl, v, .ty "bool", _, _, _, rfl, .ty "bool", ty, kit_ty k2, _, rfl, ?_⟩
      have z : (!isBo v) = isIn v := isIB_not e
      show Q (V.bl (!isBo v)) H
      rw [z]
      exact q
    · have z : false = isIn v := (isIB_no e).symm
      show Q (V.bl false) H
      rw [z]
      exact q
def spBetween : Sp := fun vs H Q _ => ∃ v o lo hi, vs = [v, .int lo, .int hi] ∧ Thg H v o ∧ Q (.bl (betw v lo hi)) H
theorem ok_between {f fW : Addr} {fd fdW : FuncData} {k : Nat} (F : Fun K "is_between" "is_between" sBetween f fd) (FW : Fun K "is_whole" "is_whole" sPWhole fW fdW) (bW : Binds K fdW ["thing"] []) (gW : mg "is_whole" = some (.ref fW)) (mi : mg "isinstance" = none) (mint : mg "int" = none) (mbool : mg "bool" = none) : FnOk P w K mg base CX0 (k + 2) f fd ["thing", "least", "most"] spBetween := by
  have GW : FnOk P w K mg base CX0 (k + 1) fW fdW ["thing"] spPWhole := ok_pwhole FW mi mint mbool
  refine F.ok scBetween (fun vs H Q E h => ?_) (fun cdv A outer s H vs Q E hr h => ?_)
  · obtain ⟨v, o, lo, hi, rfl, _⟩ := h
    rfl
  · obtain ⟨v, o, lo, hi, rfl, t, q⟩ := h
    refine ⟨_, pss_one (ps_ret (pe_and (pe_call GW hr (by rfl) gW FW.kp bW .nil pass0 (pa_cons (pv 0) pa_nil)) (pe_one (pe_chain op_le op_le (pv 1) (pv 0) (pv 2))))), ?_⟩
    refine ⟨v, rfl, v, o, rfl, t, _, rfl, ite2 (fun e => ?_) (fun e => ?_)⟩
    · obtain ⟨i, rfl⟩ := isIn_int e
      refine ⟨.int lo, rfl, .int i, rfl, lo, i, rfl, rfl, _, rfl, ite2 (fun e1 => ?_) (fun e1 => ?_)⟩
      · refine ⟨.int hi, rfl, i, hi, rfl, rfl, ?_⟩
        have e2 := of_decide_eq_true e1
        have z : decide (i ≤ hi) = betw (.int i) lo hi := by
          show _ = decide (_ ∧ _)
          by_cases y : i ≤ hi <;> simp [y, e2]
        show Q (V.bl (decide (i ≤ hi))) H
        rw [z]
        exact q
      · have e2 : ¬ lo ≤ i := fun y => e1 (decide_eq_true y)
        have z : false = betw (.int i) lo hi := by
          show _ = decide (_ ∧ _)
          rw [decide_eq_false (by omega)]
        show Q (V.bl false) H
        rw [z]
        exact q
    · have z : false = betw v lo hi := (betw_no (Bool.eq_false_iff.mpr e)).symm
      show Q (V.bl false) H
      rw [z]
      exact q
def lenIs (o : Option (List V)) (m : Int) : Bool := match o with
  | some xs => decide ((xs.length : Int) = m)
  | none => false
def spTupOf : Sp := fun vs H Q _ => ∃ v o m, vs = [v, .int m] ∧ Thg H v o ∧ Q (.bl (lenIs o m)) H
theorem ok_tupOf {f : Addr} {fd : FuncData} {k : Nat} (F : Fun K "is_tuple_of" "is_tuple_of" sTupOf f fd) (mi : mg "isinstance" = none) (mtup : mg "tuple" = none) (ml : mg "len" = none) : FnOk P w K mg base CX0 (k + 1) f fd ["thing", "many"] spTupOf := by
  refine F.ok scTupOf (fun vs H Q E h => ?_) (fun cdv A outer s H vs Q E hr h => ?_)
  · obtain ⟨v, o, m, rfl, _⟩ := h
    rfl
  · obtain ⟨v, o, m, rfl, t, q⟩ := h
    obtain ⟨n, ty, _, _, k3, _⟩ := t.kit (K := K)
    refine ⟨_, pss_one (ps_ret (pe_and (pe_callB call_isi (by rfl) mi (by decide +kernel) (pa_cons (pv 0) (pa_cons (pe_bltn (v := .ty "tuple") (by rfl) mtup (by decide +kernel) rfl) pa_nil))) (pe_one (pe_cmpR op_eq (pe_callB call_len_seq (by rfl) ml (by decide +kernel) (pa_cons (pv 0) pa_nil)) (pv 1) (nomark _))))), ?_⟩
    refine ⟨v, rfl, v, .ty "tuple", _, _, _, rfl, .ty "tuple", ty, kit_ty k3, _, rfl, ite2 (fun e => ?_) (fun e => ?_)⟩
    · obtain ⟨xs, rfl⟩ : ∃ xs, o = some xs := by
        cases o with
        | none => cases (show false = true from e)
        | some xs => exact ⟨xs, rfl⟩
      obtain ⟨a, rfl, ea⟩ := t.some_tup
      refine ⟨.ref a, rfl, a, xs, rfl, .inr (.inl (.inl ea)), .int m, rfl, rfl, ?_⟩
      have z : decide (V.int (xs.length : Nat) = V.int m) = lenIs (some xs) m := by
        show _ = decide _
        by_cases y : (xs.length : Int) = m <;> simp [y]
      rw [z]
      exact q
    · have z : false = lenIs o m := by
        cases o with
        | none => rfl
        | some xs => exact absurd rfl e
      show Q (V.bl false) H
      rw [z]
      exact q
abbrev NCo : List Str := ["pick", "i", "j", "xs", "ys"]
theorem scComes : FnScope NCo ["pick", "i", "j"] (defScope sComes) := ⟨rfl, rfl, rfl, by decide +kernel, rfl, by decide +kernel, by decide +kernel⟩
def crI (xs : List Int) (i j : Nat) : Int := if xs.getD j 0 ≤ (i : Int) then 0 else 2
def ccI (ys : List Int) (i j : Nat) : Int := if ys.getD i 0 ≤ (j : Int) then 1 else 3
def spComes : Sp := fun vs H Q _ => ∃ (t : Addr) (a b i j : Nat) (xs ys : List Int), vs = [.ref t, .int (i : Int), .int (j : Int)] ∧ PickAt H t a b xs ys ∧ i < a ∧ j < b ∧
  ∀ H' T, Same H H' → H T = none → H' T = some (.tup [.int (crI xs i j), .int (ccI ys i j)]) → Q (.ref T) H'
theorem ok_comes {f : Addr} {fd : FuncData} {k : Nat} (F : Fun K "comes" "comes" sComes f fd) : FnOk P w K mg base CX0 (k + 1) f fd ["pick", "i", "j"] spComes := by
  refine F.ok scComes (fun vs H Q E h => ?_) (fun cdv A outer s H vs Q E hr h => ?_)
  · obtain ⟨t, a, b, i, j, xs, ys, rfl, _⟩ := h
    rfl
  · obtain ⟨t, a, b, i, j, xs, ys, rfl, ⟨tx, ty, h1, h2, h3, l1, l2, u1, u2⟩, hi, hj, q⟩ := h
    have nd := scComes.nd
    refine ⟨_, pss_cons (ps_asg (pv 0) (pg_tup rfl (pgs_cons (pg_name (i := 3) nd rfl (.inl rfl)) (pgs_cons (pg_name (i := 4) nd rfl (.inl rfl)) pgs_nil))))
      (pss_one (ps_ret (pe_tup (pa_cons (pe_ifExp (pt_cmpR op_le (pe_ix ix_tup (pv 3) (pv 2) (fun _ _ => rfl)) (pv 1) (nomark _)) pe_int pe_int) (pa_cons (pe_ifExp (pt_cmpR op_le (pe_ix ix_tup (pv 4) (pv 1) (fun _ _ => rfl)) (pv 2) (nomark _)) pe_int pe_int) pa_nil))))), ?_⟩
    refine ⟨.ref t, rfl, t, _, rfl, .inl (.inl h1), rfl, _, _, rfl, _, _, rfl, rfl, ?_⟩
    have fin : ∀ T, H T = none → Q (.ref T) (upd H T (.tup [.int (crI xs i j), .int (ccI ys i j)])) := fun T nT => q _ T (same_upd nT) nT upd_same
    unfold crI ccI at fin
    refine ⟨.ref tx, rfl, .int (j : Int), rfl, tx, _, _, _, rfl, rfl, .inl (.inl h2), atD (by omega), .int (i : Int), rfl, _, _, rfl, rfl, _, rfl, ite2 (fun e => ?_) (fun e => ?_)⟩
    · rw [if_pos (of_decide_eq_true e)] at fin
      refine ⟨.ref ty, rfl, .int (i : Int), rfl, ty, _, _, _, rfl, rfl, .inl (.inl h3), atD (by omega), .int (j : Int), rfl, _, _, rfl, rfl, _, rfl, ite2 (fun e => ?_) (fun e => ?_)⟩
      · rw [if_pos (of_decide_eq_true e)] at fin
        exact ⟨by show 2 ≤ sizeLine; decide, fin⟩
      · rw [if_neg (fun z => e (decide_eq_true z))] at fin
        exact ⟨by show 2 ≤ sizeLine; decide, fin⟩
    · rw [if_neg (fun z => e (decide_eq_true z))] at fin
      refine ⟨.ref ty, rfl, .int (i : Int), rfl, ty, _, _, _, rfl, rfl, .inl (.inl h3), atD (by omega), .int (j : Int), rfl, _, _, rfl, rfl, _, rfl, ite2 (fun e => ?_) (fun e => ?_)⟩
      · rw [if_pos (of_decide_eq_true e)] at fin
        exact ⟨by show 2 ≤ sizeLine; decide, fin⟩
      · rw [if_neg (fun z => e (decide_eq_true z))] at fin
        exact ⟨by show 2 ≤ sizeLine; decide, fin⟩
end
end C2

namespace C2
set_option Elab.async false
set_option linter.all false
set_option maxRecDepth 100000
set_option maxHeartbeats 4000000
open PySem PySem.Spec PyProof.Rows L2
/-! ### the program's search, as a function -/
theorem upto_at {m : Nat} {vs : List Int} {i : Nat} (h : Upto m vs) (hi : i < vs.length) : 0 ≤ vs.getD i 0 ∧ vs.getD i 0 ≤ (m : Int) := by
  rw [List.getD_eq_getElem?_getD, List.getElem?_eq_getElem hi]
  exact h _ (List.getElem_mem hi)
section
variable {P : Program} {w : World} {K : PySem.W.Frag} {mg : Str → Option Value} {base : Heap}
theorem scSizeP : FnScope ["pick", "xs", "ys"] ["pick"] (defScope sSizeP) := ⟨rfl, rfl, rfl, by decide +kernel, rfl, by decide +kernel, by decide +kernel⟩
def spSizeP : Sp := fun vs H Q _ => ∃ (t : Addr) (a b : Nat) (xs ys : List Int), vs = [.ref t] ∧ PickAt H t a b xs ys ∧ ∀ H' T, Same H H' → H T = none → H' T = some (.tup [.int (a : Int), .int (b : Int)]) → Q (.ref T) H'
theorem ok_sizep {f : Addr} {fd : FuncData} {k : Nat} (F : Fun K "size_of_pick" "size_of_pick" sSizeP f fd) (ml : mg "len" = none) : FnOk P w K mg base CX0 (k + 1) f fd ["pick"] spSizeP := by
  refine F.ok scSizeP (fun vs H Q E h => ?_) (fun cdv A outer s H vs Q E hr h => ?_)
  · obtain ⟨t, a, b, xs, ys, rfl, _⟩ := h
    rfl
  · obtain ⟨t, a, b, xs, ys, rfl, ⟨tx, ty, h1, h2, h3, l1, l2, u1, u2⟩, q⟩ := h
    have nd := scSizeP.nd
    refine ⟨_, pss_cons (ps_asg (pv 0) (pg_tup rfl (pgs_cons (pg_name (i := 1) nd rfl (.inl rfl)) (pgs_cons (pg_name (i := 2) nd rfl (.inl rfl)) pgs_nil))))
      (pss_one (ps_ret (pe_tup (pa_cons (pe_callB call_len_seq (by rfl) ml PySem.boot_len (pa_cons (pv 2) pa_nil)) (pa_cons (pe_callB call_len_seq (by rfl) ml PySem.boot_len (pa_cons (pv 1) pa_nil)) pa_nil))))), ?_⟩
    refine ⟨.ref t, rfl, t, _, rfl, .inl (.inl h1), rfl, _, _, rfl, _, _, rfl, rfl, ?_⟩
    refine ⟨.ref ty, rfl, ty, _, rfl, .inr (.inl (.inl h3)), .ref tx, rfl, tx, _, rfl, .inr (.inl (.inl h2)), by show 2 ≤ sizeLine; decide, fun T nT => ?_⟩
    refine q _ T (same_upd nT) nT ?_
    rw [upd_same, List.length_map, List.length_map, l1, l2]
end
end C2

namespace C2
set_option Elab.async false
set_option linter.all false
set_option maxRecDepth 100000
set_option maxHeartbeats 1000000
open PySem PySem.Spec PyProof.Rows L2
section
variable {P : Program} {w : World} {K : PySem.W.Frag} {mg : Str → Option Value} {base : Heap}
theorem scLComes : FnScope ["_law_chosen", "_law_i", "_law_j"] ["_law_chosen", "_law_i", "_law_j"] (defScope sLComes) := ⟨rfl, rfl, rfl, by decide +kernel, rfl, by decide +kernel, by decide +kernel⟩
theorem ok_lcomes {f : Addr} {fd : FuncData} {k : Nat} (F : Fun K "_law_comes" "_law_comes" sLComes f fd) : FnOk P w K mg base CX0 (k + 1) f fd ["_law_chosen", "_law_i", "_law_j"] spComes := by
  refine F.ok scLComes (fun vs H Q E h => ?_) (fun cdv A outer s H vs Q E hr h => ?_)
  · obtain ⟨t, a, b, i, j, xs, ys, rfl, _⟩ := h
    rfl
  · obtain ⟨t, a, b, i, j, xs, ys, rfl, ⟨tx, ty, h1, h2, h3, l1, l2, u1, u2⟩, hi, hj, q⟩ := h
    refine ⟨_, pss_one (ps_ret (pe_tup (pa_cons (pe_ifExp (pt_cmpR op_le (pe_ix ix_tup (pe_ix ix_tup (pv 0) pe_int (fun _ _ => rfl)) (pv 2) (fun _ _ => rfl)) (pv 1) (nomark _)) pe_int pe_int) (pa_cons (pe_ifExp (pt_cmpR op_le (pe_ix ix_tup (pe_ix ix_tup (pv 0) pe_int (fun _ _ => rfl)) (pv 1) (fun _ _ => rfl)) (pv 2) (nomark _)) pe_int pe_int) pa_nil)))), ?_⟩
    have fin : ∀ T, H T = none → Q (.ref T) (upd H T (.tup [.int (crI xs i j), .int (ccI ys i j)])) := fun T nT => q _ T (same_upd nT) nT upd_same
    unfold crI ccI at fin
    have t1 : SqT K H t [.ref tx, .ref ty] := .inl (.inl h1)
    refine ⟨.ref t, rfl, t, _, 0, .ref tx, rfl, rfl, t1, rfl, .int (j : Int), rfl, tx, _, _, _, rfl, rfl, .inl (.inl h2), atD (by omega), .int (i : Int), rfl, _, _, rfl, rfl, _, rfl, ite2 (fun e => ?_) (fun e => ?_)⟩
    · rw [if_pos (of_decide_eq_true e)] at fin
      refine ⟨.ref t, rfl, t, _, 1, .ref ty, rfl, rfl, t1, rfl, .int (i : Int), rfl, ty, _, _, _, rfl, rfl, .inl (.inl h3), atD (by omega), .int (j : Int), rfl, _, _, rfl, rfl, _, rfl, ite2 (fun e => ?_) (fun e => ?_)⟩
      · rw [if_pos (of_decide_eq_true e)] at fin
        exact ⟨by show 2 ≤ sizeLine; decide, fin⟩
      · rw [if_neg (fun z => e (decide_eq_true z))] at fin
        exact ⟨by show 2 ≤ sizeLine; decide, fin⟩
    · rw [if_neg (fun z => e (decide_eq_true z))] at fin
      refine ⟨.ref t, rfl, t, _, 1, .ref ty, rfl, rfl, t1, rfl, .int (i : Int), rfl, ty, _, _, _, rfl, rfl, .inl (.inl h3), atD (by omega), .int (j : Int), rfl, _, _, rfl, rfl, _, rfl, ite2 (fun e => ?_) (fun e => ?_)⟩
      · rw [if_pos (of_decide_eq_true e)] at fin
        exact ⟨by show 2 ≤ sizeLine; decide, fin⟩
      · rw [if_neg (fun z => e (decide_eq_true z))] at fin
        exact ⟨by show 2 ≤ sizeLine; decide, fin⟩
end
end C2

namespace C2
set_option Elab.async false
set_option linter.all false
set_option maxRecDepth 100000
set_option maxHeartbeats 1000000
open PySem PySem.Spec PyProof.Rows L2 HT
/-! ### things: data of any kind, dicts of one text too -/
def FrX (E : Addr → Prop) (H H' : Hp) : Prop := ∀ b o, ¬ E b → H b = some o → H' b = some o
theorem FrX.same {E : Addr → Prop} {H H' : Hp} (s : Same H H') : FrX E H H' := fun b o _ h => s b o h
theorem FrX.of {N : Addr → Prop} {p : Addr} {H H' : Hp} (f : Fr p H H') (np : N p) : FrX N H H' := fun b o nb h => f b o (fun z => nb (z ▸ np)) h
mutual
/-- the thing v holds the data d, and no part of it stands in E -/
inductive Dq (E : Addr → Prop) (H : Hp) : V → PyData → Prop
  | non : Dq E H .non .none
  | bl (b : Bool) : Dq E H (.bl b) (.bool b)
  | int (i : Int) : Dq E H (.int i) (.int i)
  | str (x : Str) : Dq E H (.str x) (.str x)
  | lst {a : Addr} {xs : List V} {ds : List PyData} (e : H a = some (.lst xs)) (n : ¬ E a) (y : sysModules ≠ a) (h : DqAll E H xs ds) : Dq E H (.ref a) (.list ds)
  | tup {a : Addr} {xs : List V} {ds : List PyData} (e : H a = some (.tup xs)) (n : ¬ E a) (h : DqAll E H xs ds) : Dq E H (.ref a) (.tuple ds)
  | dic {a : Addr} {kvs : List (Str × V)} {des : List (PyData × PyData)} (e : H a = some (.dK (kvs.map fun kv => (Sum.inr kv.1, kv.2)))) (n : ¬ E a) (h : DqKv E H kvs des) : Dq E H (.ref a) (.dict des)
inductive DqAll (E : Addr → Prop) (H : Hp) : List V → List PyData → Prop
  | nil : DqAll E H [] []
  | cons {v : V} {vs : List V} {d : PyData} {ds : List PyData} (h : Dq E H v d) (t : DqAll E H vs ds) : DqAll E H (v :: vs) (d :: ds)
inductive DqKv (E : Addr → Prop) (H : Hp) : List (Str × V) → List (PyData × PyData) → Prop
  | nil : DqKv E H [] []
  | one {k : Str} {v : V} {d : PyData} (h : Dq E H v d) : DqKv E H [(k, v)] [(.str k, d)]
end
mutual
theorem Dq.fr {E : Addr → Prop} {H H' : Hp} (f : FrX E H H') : ∀ (d : PyData) {v : V}, Dq E H v d → Dq E H' v d
  | .none, _, h => by cases h; exact .non
  | .bool b, _, h => by cases h; exact .bl b
  | .int i, _, h => by cases h; exact .int i
  | .str x, _, h => by cases h; exact .str x
  | .list ds, _, h => by
    cases h with
    | lst e n y t => exact .lst (f _ _ n e) n y (DqAll.fr f ds t)
  | .tuple ds, _, h => by
    cases h with
    | tup e n t => exact .tup (f _ _ n e) n (DqAll.fr f ds t)
  | .dict [], _, h => by
    cases h with
    | dic e n t => cases t; exact .dic (kvs := []) (f _ _ n e) n .nil
  | .dict [(.str k, d)], _, h => by
    cases h with
    | dic e n t =>
      cases t with
      | one h => exact .dic (kvs := [(k, _)]) (f _ _ n e) n (.one (Dq.fr f d h))
  | .dict ((.none, _) :: _), _, h => by cases h with | dic e n t => cases t
  | .dict ((.bool _, _) :: _), _, h => by cases h with | dic e n t => cases t
  | .dict ((.int _, _) :: _), _, h => by cases h with | dic e n t => cases t
  | .dict ((.list _, _) :: _), _, h => by cases h with | dic e n t => cases t
  | .dict ((.tuple _, _) :: _), _, h => by cases h with | dic e n t => cases t
  | .dict ((.dict _, _) :: _), _, h => by cases h with | dic e n t => cases t
  | .dict ((.str _, _) :: _ :: _), _, h => by cases h with | dic e n t => cases t
theorem DqAll.fr {E : Addr → Prop} {H H' : Hp} (f : FrX E H H') : ∀ (ds : List PyData) {vs : List V}, DqAll E H vs ds → DqAll E H' vs ds
  | [], _, h => by cases h; exact .nil
  | d :: ds, _, h => by
    cases h with
    | cons x t => exact .cons (Dq.fr f d x) (DqAll.fr f ds t)
end
end C2

namespace C2
set_option Elab.async false
set_option linter.all false
set_option maxRecDepth 100000
set_option maxHeartbeats 1000000
open PySem PySem.Spec PyProof.Rows L2 HT
theorem DqAll.len {E : Addr → Prop} {H : Hp} : ∀ {ds : List PyData} {vs : List V}, DqAll E H vs ds → vs.length = ds.length
  | [], _, h => by cases h; rfl
  | d :: ds, _, h => by
    cases h with
    | cons x t => rw [List.length_cons, List.length_cons, DqAll.len t]
theorem DqAll.app {E : Addr → Prop} {H : Hp} : ∀ {ds es : List PyData} {vs ws : List V}, DqAll E H vs ds → DqAll E H ws es → DqAll E H (vs ++ ws) (ds ++ es)
  | [], _, _, _, h, t => by cases h; exact t
  | d :: ds, _, _, _, h, t => by
    cases h with
    | cons x y => exact .cons x (DqAll.app y t)
theorem DqAll.nth {E : Addr → Prop} {H : Hp} : ∀ {ds : List PyData} {vs : List V} {v : V}, DqAll E H vs ds → v ∈ vs → ∃ d, d ∈ ds ∧ Dq E H v d
  | [], _, _, h, e => by cases h; cases e
  | d :: ds, _, v, h, e => by
    cases h with
    | cons x y =>
      rcases List.mem_cons.mp e with rfl | e
      · exact ⟨d, List.mem_cons_self, x⟩
      · obtain ⟨d', h1, h2⟩ := DqAll.nth y e
        exact ⟨d', List.mem_cons_of_mem _ h1, h2⟩
theorem DqAll.take {E : Addr → Prop} {H : Hp} : ∀ {ds : List PyData} {vs : List V} (n : Nat), DqAll E H vs ds → DqAll E H (vs.take n) (ds.take n)
  | [], _, n, h => by cases h; simp; exact .nil
  | d :: ds, _, 0, h => .nil
  | d :: ds, _, n + 1, h => by
    cases h with
    | cons x y => exact .cons x (DqAll.take n y)
theorem DqAll.drop {E : Addr → Prop} {H : Hp} : ∀ {ds : List PyData} {vs : List V} (n : Nat), DqAll E H vs ds → DqAll E H (vs.drop n) (ds.drop n)
  | [], _, n, h => by cases h; simp; exact .nil
  | d :: ds, _, 0, h => h
  | d :: ds, _, n + 1, h => by
    cases h with
    | cons x y => exact DqAll.drop n y
theorem DqAll.rev {E : Addr → Prop} {H : Hp} : ∀ {ds : List PyData} {vs : List V}, DqAll E H vs ds → DqAll E H vs.reverse ds.reverse
  | [], _, h => by cases h; exact .nil
  | d :: ds, _, h => by
    cases h with
    | cons x y =>
      have z := (DqAll.rev y).app (DqAll.cons x .nil)
      simpa using z
theorem Dq.thg {E : Addr → Prop} {H : Hp} {v : V} {d : PyData} (h : Dq E H v d) : ∃ o, Thg H v o ∧ (∀ xs, o = some xs → ∃ ds, d = .tuple ds ∧ DqAll E H xs ds) ∧ (o = none → ∀ ds, d ≠ .tuple ds) := by
  cases h with
  | non => exact ⟨none, .non, (fun _ e => nomatch e), (fun _ _ e => nomatch e)⟩
  | bl b => exact ⟨none, .bl b, (fun _ e => nomatch e), (fun _ _ e => nomatch e)⟩
  | int i => exact ⟨none, .int i, (fun _ e => nomatch e), (fun _ _ e => nomatch e)⟩
  | str x => exact ⟨none, .str x, (fun _ e => nomatch e), (fun _ _ e => nomatch e)⟩
  | lst e n y t => exact ⟨none, .lst e, (fun _ e => nomatch e), (fun _ _ e => nomatch e)⟩
  | tup e n t => exact ⟨_, .tup e, (fun xs e => by cases e; exact ⟨_, rfl, t⟩), (fun e => nomatch e)⟩
  | dic e n t => exact ⟨none, .dK e, (fun _ e => nomatch e), (fun _ _ e => nomatch e)⟩
section
variable {X : Cx} {pins : List (Addr × Obj)} {σ : L2.St} {H : Hp} {s : Shared}
/-- a dict of one text, or of none -/
theorem dic_reads {a : Addr} {kvs : List (Str × V)} (I : Inv X pins σ H s) (e : H a = some (.dK (kvs.map fun kv => (Sum.inr kv.1, kv.2)))) (few : kvs.length ≤ 1) :
    sysModules ≠ a ∧ ∃ o es n, s.heap.get? a = some o ∧ o.cls = .type "dict" ∧ o.data = .dict es n ∧ ((kvs = [] ∧ es.toList = []) ∨ ∃ k v u t en, kvs = [(k, v)] ∧ RelV v u ∧ es.toList = [en] ∧ en.key = .str k t ∧ en.val = u) := by
  obtain ⟨_, ns, vs, kv, o, es, ep, g, xd, dt, _, prs, _⟩ := dk_of I.hok e
  refine ⟨fun z => beq_eq_false_iff_ne.mp ns z.symm, o, es, ep, g, xd.1, dt, ?_⟩
  match kvs, few with
  | [], _ =>
    cases kv
    cases q : es.toList with
    | nil => exact .inl ⟨rfl, rfl⟩
    | cons y ys => rw [q] at prs; cases prs
  | [(k, v)], _ =>
    obtain ⟨u, rfl, ru⟩ : ∃ u, vs = [(Sum.inr k, u)] ∧ RelV v u := by
      cases kv with
      | cons h t =>
        cases t
        rename_i w _
        exact ⟨w.2, by rw [show (Sum.inr k : Key) = w.1 from h.1], h.2⟩
    cases q : es.toList with
    | nil => rw [q] at prs; cases prs
    | cons y ys =>
      rw [q] at prs
      cases prs with
      | cons h1 h2 h3 =>
        cases h3
        have h1' : keyIs (Sum.inr k) y.key = true := h1
        rcases keyIs_shape h1' with ⟨_, _, z, _⟩ | ⟨x, t, z, w⟩
        · cases z
        · cases z
          exact .inr ⟨k, v, u, t, y, rfl, ru, rfl, w, h2⟩
mutual
theorem Dq.reads {E : Addr → Prop} (I : Inv X pins σ H s) : ∀ (d : PyData) {v : V} {u : Value}, Dq E H v d → RelV v u → ∃ as, Reads s.heap u d as ∧ sysModules ∉ as
  | .none, _, _, h, r => by cases h; cases r; exact ⟨[], .none, List.not_mem_nil⟩
  | .bool b, _, _, h, r => by cases h; cases r; exact ⟨[], .bool b, List.not_mem_nil⟩
  | .int i, _, _, h, r => by
    cases h
    obtain ⟨t, rfl⟩ := r
    exact ⟨[], .int i t, List.not_mem_nil⟩
  | .str x, _, _, h, r => by
    cases h
    obtain ⟨t, rfl⟩ := r
    exact ⟨[], .str x t, List.not_mem_nil⟩
  | .list ds, _, _, h, r => by
    cases h with
    | lst e n y t =>
      cases r
      obtain ⟨us, rv, ⟨ob, m, g, c, _, dt⟩, _⟩ := I.list (.inl (.inl e))
      obtain ⟨as, rd, no⟩ := DqAll.reads I ds t rv
      exact ⟨_, .list g c dt rd, fun z => (List.mem_cons.mp z).elim y no⟩
  | .tuple ds, _, _, h, r => by
    cases h with
    | tup e n t =>
      cases r
      obtain ⟨us, rv, ⟨ob, g, c, m, dt⟩, _⟩ := I.tuple (.inl (.inl e))
      obtain ⟨as, rd, no⟩ := DqAll.reads I ds t rv
      exact ⟨_, .tuple g c dt rd, no⟩
  | .dict [], _, _, h, r => by
    cases h with
    | dic e n t =>
      cases t
      cases r
      obtain ⟨ns, o, es, m, g, c, dt, h⟩ := dic_reads (kvs := []) I e (by decide)
      rcases h with ⟨_, e0⟩ | ⟨_, _, _, _, _, z, _⟩
      · refine ⟨_, .dict (kvs := []) (as := []) (bs := []) g c dt (by rw [e0]; exact .nil) (by rw [e0]; exact .nil), fun z => ?_⟩
        simp at z
        exact ns z
      · cases z
  | .dict [(.str k, d)], _, _, h, r => by
    cases h with
    | dic e n t =>
      cases t with
      | one hv =>
        cases r
        obtain ⟨ns, o, es, m, g, c, dt, h⟩ := dic_reads (kvs := [(k, _)]) I e (by show 1 ≤ 1; decide)
        rcases h with ⟨z, _⟩ | ⟨k', v', u', t', en, z, ru, e1, ek, ev⟩
        · cases z
        · cases z
          obtain ⟨as, rd, no⟩ := Dq.reads I d hv ru
          refine ⟨_, .dict (kvs := [(.str k, d)]) (as := [] ++ []) (bs := as ++ []) g c dt (by rw [e1]; show ReadsAll _ [en.key] [PyData.str k] _; rw [ek]; exact .cons (.str k t') .nil) (by rw [e1]; show ReadsAll _ [en.val] [d] _; rw [ev]; exact .cons rd .nil), fun z => ?_⟩
          simp at z
          rcases z with z | z
          · exact ns z
          · exact no z
  | .dict ((.none, _) :: _), _, _, h, _ => by cases h with | dic e n t => cases t
  | .dict ((.bool _, _) :: _), _, _, h, _ => by cases h with | dic e n t => cases t
  | .dict ((.int _, _) :: _), _, _, h, _ => by cases h with | dic e n t => cases t
  | .dict ((.list _, _) :: _), _, _, h, _ => by cases h with | dic e n t => cases t
  | .dict ((.tuple _, _) :: _), _, _, h, _ => by cases h with | dic e n t => cases t
  | .dict ((.dict _, _) :: _), _, _, h, _ => by cases h with | dic e n t => cases t
  | .dict ((.str _, _) :: _ :: _), _, _, h, _ => by cases h with | dic e n t => cases t
theorem DqAll.reads {E : Addr → Prop} (I : Inv X pins σ H s) : ∀ (ds : List PyData) {vs : List V} {us : List Value}, DqAll E H vs ds → Vals vs us → ∃ as, ReadsAll s.heap us ds as ∧ sysModules ∉ as
  | [], _, _, h, r => by cases h; cases r; exact ⟨[], .nil, List.not_mem_nil⟩
  | d :: ds, _, _, h, r => by
    cases h with
    | cons x t =>
      cases r with
      | cons rx rt =>
        obtain ⟨as, a1, a2⟩ := Dq.reads I d x rx
        obtain ⟨bs, b1, b2⟩ := DqAll.reads I ds t rt
        exact ⟨_, .cons a1 b1, fun z => (List.mem_append.mp z).elim a2 b2⟩
end
/-- repr by what it shows -/
def Shows (G : Hp) (v : V) (S : Str) : Prop := ∃ (E : Addr → Prop) (d : PyData), Dq E G v d ∧ d.showable = true ∧ d.depth ≤ 60 ∧ d.shown.length ≤ sizeLine ∧ S = d.shown
def rReprS : List V → Hp → VK → Prop := fun xs G Q => ∃ v S, xs = [v] ∧ Shows G v S ∧ Q (.str S) G
theorem call_reprS (room : X.A.units + 64 < cLine) (hgd : X.A.guards = some []) : CallR X (.builtin "repr") rReprS := by
  intro pins s σ G xs us R I r h
  obtain ⟨v, S, rfl, ⟨E, d, hd, sh, dp, ln, rfl⟩, q⟩ := h
  obtain ⟨u, rfl, rel⟩ := vals1 r
  cases d with
  | none =>
    cases hd
    cases rel
    exact PySem.P.repr_of_none ⟨.str "None", G, I.tok _, ⟨_, rfl⟩, q⟩
  | bool b =>
    cases hd
    cases rel
    refine PySem.P.repr_of_bool ⟨.str (if b then "True" else "False"), G, I.tok _, ⟨_, rfl⟩, ?_⟩
    cases b <;> exact q
  | int i =>
    cases hd
    obtain ⟨t, rfl⟩ := rel
    exact PySem.P.repr_of_int (of_decide_eq_true sh) ⟨.str (toString i), G, I.tok _, ⟨_, rfl⟩, q⟩
  | str x =>
    cases hd
    obtain ⟨t, rfl⟩ := rel
    exact PySem.P.repr_of_str ⟨.str (reprText x), G, I.tok _, ⟨_, rfl⟩, q⟩ ln
  | list ds =>
    obtain ⟨as, rd, no⟩ := Dq.reads I _ hd rel
    cases hd
    cases rel
    exact repr_of_reads' rd sh (fun _ => no) hgd (by omega) (fun _ _ e => e) (fun h' t tk kp => ⟨.str _, G, I.kept (t' := tk) kp, ⟨_, rfl⟩, q⟩) ln
  | tuple ds =>
    obtain ⟨as, rd, no⟩ := Dq.reads I _ hd rel
    cases hd
    cases rel
    exact repr_of_reads' rd sh (fun _ => no) hgd (by omega) (fun _ _ e => e) (fun h' t tk kp => ⟨.str _, G, I.kept (t' := tk) kp, ⟨_, rfl⟩, q⟩) ln
  | dict kvs =>
    obtain ⟨as, rd, no⟩ := Dq.reads I _ hd rel
    cases hd
    cases rel
    exact repr_of_reads' rd sh (fun _ => no) hgd (by omega) (fun _ _ e => e) (fun h' t tk kp => ⟨.str _, G, I.kept (t' := tk) kp, ⟨_, rfl⟩, q⟩) ln
/-! ### new lists are not where sys.modules stands -/
def tLstS (t : TA) : TE := fun σ H Q => t σ H fun xs H1 => xs.length ≤ sizeLine ∧ ∀ p, H1 p = none → sysModules ≠ p → Q (.ref p) (upd H1 p (.lst xs))
theorem pe_lstS {es : List Expr} {t : TA} {pos : Pos} (h : PA X es t) : PE X (.List es pos) (tLstS t) := by
  constructor
  intro pins s0 σ G R I0 hq
  refine wpAny_List_spliced (thn (h.run pos pins s0 σ G _ I0 hq) ?_)
  rintro us s1 ⟨xs, G1, I1, rel, small, q⟩
  have ne : sysModules ≠ s1.heap.objs.size := Nat.ne_of_lt I1.big
  refine ⟨by rw [← rel.length]; exact small, .ref s1.heap.objs.size, upd G1 s1.heap.objs.size (.lst xs), I1.laid (t' := s1.toks) (fun b u e => Heap.get?_push_of_some _ e) (Nat.le_refl _) ⟨small, us, 0, rel, Heap.get?_push_size _ rfl⟩, rfl, q _ (I1.hok.fresh (Nat.le_refl _)) ne⟩
/-- list(t), t a tuple -/
def rListS (K : PySem.W.Frag) : List V → Hp → VK → Prop := fun xs G Q => ∃ p ys, xs = [.ref p] ∧ SqT K G p ys ∧ ∀ l, G l = none → sysModules ≠ l → Q (.ref l) (upd G l (.lst ys))
theorem call_listS : CallR X (.type "list") (rListS X.K) := by
  intro pins s σ G xs us R I r h
  obtain ⟨p, ys, rfl, sq, q⟩ := h
  obtain ⟨u, rfl, rel⟩ := vals1 r
  cases rel
  obtain ⟨its, rv, ⟨o, at_, kind, n, dat⟩, small⟩ := I.tuple sq
  have len := rv.length
  have ne : sysModules ≠ s.heap.objs.size := Nat.ne_of_lt I.big
  refine call_list_seq p (.inr rfl) at_ kind dat (fun h' c' kp e => ?_) (by simp only [List.size_toArray] <;> omega)
  exact ⟨.ref s.heap.objs.size, _, I.laid (t' := s.toks) kp (Nat.le_refl _) (show ObjOk X.prog X.w _ h' _ (.lst ys) from ⟨small, its, c', rv, e⟩), rfl, q _ (I.hok.fresh (Nat.le_refl _)) ne⟩
end
end C2

namespace C2
set_option Elab.async false
set_option linter.all false
set_option maxRecDepth 100000
set_option maxHeartbeats 1000000
open PySem PySem.Spec PyProof.Rows L2 HT
/-! ### t[::-1] -/
theorem adjust_back (n : Nat) : Builtin.Slice.sliceAdjust none none (-1) (n : Int) = ((n : Int) - 1, -1) := rfl
theorem places_back (n : Nat) : Builtin.Slice.slicePlaces ((n : Int) - 1) (-1) (-1) = n := by
  unfold Builtin.Slice.slicePlaces
  rw [if_neg (by decide)]
  by_cases h : n = 0
  · subst h; rfl
  · rw [if_pos (by omega)]
    simp only [Int.neg_neg, Int.ediv_one]
    omega
theorem fm_congr {α β : Type} {f g : α → Option β} : ∀ {l : List α}, (∀ x ∈ l, f x = g x) → l.filterMap f = l.filterMap g
  | [], _ => rfl
  | x :: l, h => by rw [List.filterMap_cons, List.filterMap_cons, h x List.mem_cons_self, fm_congr fun y hy => h y (List.mem_cons_of_mem _ hy)]
theorem pick_back (us : List Value) : ((List.range us.length).filterMap fun k : Nat => us.toArray[((us.length : Int) - 1 + (k : Int) * (-1)).toNat]?).toArray = us.reverse.toArray := by
  congr 1
  have one : (List.range us.length).filterMap (fun k : Nat => us.toArray[((us.length : Int) - 1 + (k : Int) * (-1)).toNat]?) = ((List.range us.length).map fun k => us.length - 1 - k).filterMap (us.toArray[·]?) := by
    rw [List.filterMap_map]
    refine fm_congr fun k hk => ?_
    have := List.mem_range.mp hk
    show us.toArray[_]? = us.toArray[_]?
    rw [show ((us.length : Int) - 1 + (k : Int) * (-1)).toNat = us.length - 1 - k by omega]
  rw [one, PySem.W.krv_range, List.filterMap_reverse]
  have all := PySem.W.krv_all us.toArray
  rw [List.size_toArray] at all
  rw [all]
section
variable {prog : Program} {w : World} {A : Around} {E : Value → Shared → Prop} {s : Shared}
theorem applied_back {sl : Addr} {low top step : Value} {n : Nat} {Q : Int × Int × Nat → Shared → Prop} (hs : s.heap.IsSliceOf sl low top step) (pl : IsPart low none) (pt : IsPart top none) (ps : IsPart step (some (-1)))
    (fin : Q ((n : Int) - 1, -1, n) s) : wpAny (model prog w) A (Builtin.Slice.sliceApplied (.ref sl) (pure (n : Int))) Q E s := by
  obtain ⟨ob, at_, _, dat⟩ := id hs
  have three : ∀ {R : Value × Value × Value → Shared → Prop}, R (low, top, step) s → wpAny (model prog w) A (Builtin.Slice.sliceFields (.ref sl)) R E s := fun h =>
    wpAny_bind (wpAny_field at_ dat (x := low) rfl (wpAny_bind (wpAny_field at_ dat (x := top) rfl (wpAny_bind (wpAny_field at_ dat (x := step) rfl (wpAny_pure h))))))
  refine wpAny_bind (three (wpAny_bind (slicePart_ ps ?_)))
  show wpAny _ _ (if ((-1 : Int) == 0) = true then _ else _) _ _ _
  rw [if_neg (by decide)]
  refine wpAny_bind (slicePart_ pl (wpAny_bind (slicePart_ pt (wpAny_bind (wpAny_pure ?_)))))
  show wpAny _ _ (match Builtin.Slice.sliceAdjust none none (-1) (n : Int) with | (lo, hi) => pure (lo, (-1 : Int), Builtin.Slice.slicePlaces lo hi (-1))) _ _ _
  rw [adjust_back]
  show wpAny _ _ (pure ((n : Int) - 1, (-1 : Int), Builtin.Slice.slicePlaces ((n : Int) - 1) (-1) (-1))) _ _ _
  rw [places_back]
  exact wpAny_pure fin
theorem back_tup {t sl : Addr} {us : List Value} {low top step : Value} {Q : Value → Shared → Prop} (tup : IsTup s.heap t us.toArray) (hs : s.heap.IsSliceOf sl low top step) (pl : IsPart low none) (pt : IsPart top none) (ps : IsPart step (some (-1)))
    (fin : Q (.ref s.heap.objs.size) { s with heap := s.heap.push { cls := .type "tuple", data := .seq us.reverse.toArray } }) (few : us.length ≤ sizeLine) : wpAny (model prog w) A (getItem (.ref t) (.ref sl)) Q E s := by
  have lay : sizeOk (.seq us.reverse.toArray) := by
    show us.reverse.toArray.size ≤ sizeLine
    rw [List.size_toArray, List.length_reverse]
    exact few
  have isSl : s.TypeIs (.ref sl) "slice" := by
    obtain ⟨ob, at_, kind, _⟩ := id hs
    exact ⟨ob, at_, kind⟩
  unfold getItem
  refine wpAny_holding (wpAny_bind (wpAny_sequenceKey tup.typeIs (by decide) (wpAny_bind (wpAny_callSpecial?_slot (name := Str.ofString "__getitem__") tup.typeIs PyProof.Rows.slot_tuple_getitem (wpAny_call_entry PyProof.Rows.slot_tuple_getitem tup.typeIs entry_tuple_getitem ?_ (args_tuple_getitem _ _))))))
  show wpAny _ _ (Builtin.Tuple.tupleItemsOf (.ref t) >>= _) _ _ _
  refine wpAny_bind (tupleItemsOf_ tup (wpAny_bind (wpAny_typeOf isSl ?_)))
  rw [if_pos (by decide)]
  have sz : us.toArray.size = us.length := List.size_toArray
  rw [sz]
  refine wpAny_bind (applied_back (n := us.length) hs pl pt ps ?_)
  have no : ¬ (((us.length : Int) - 1 == 0 && (-1 : Int) == 1 && us.length == us.length) = true) := fun z => by
    rw [Bool.and_eq_true, Bool.and_eq_true] at z
    exact absurd z.1.2 (by decide)
  show wpAny _ _ (if ((us.length : Int) - 1 == 0 && (-1 : Int) == 1 && us.length == us.length) = true then _ else _) _ _ _
  rw [if_neg no, pick_back]
  exact wpAny_bind (m := Builtin.Tuple.tupleExact _) (wpAny_newObj_type (wpAny_pure ⟨_, rfl, wpAny_pure fin⟩) lay)
end
section
variable {X : Cx}
/-- t[::-1], t a tuple -/
def tBackT (K : PySem.W.Frag) (te : TE) : TE := fun σ H Q => te σ H fun x H1 => ∃ a xs, x = .ref a ∧ SqT K H1 a xs ∧ ∀ p, H1 p = none → Q (.ref p) (upd H1 p (.tup xs.reverse))
theorem pe_backT {e : Expr} {te : TE} {k : Nat} {p1 p2 p3 pos : Pos} (he : PE X e te) : PE X (.Subscript e (.Slice none none (some (.UnaryOp .USub (.Constant (.int 1) k p1) p2)) p3) pos) (tBackT X.K te) := by
  refine ⟨fun pins s0 σ H Q I0 h => Subscript_ (thn (he.run pins s0 σ H _ I0 h) fun v1 s1 ⟨x, H1, I1, r1, a, xs, ex, sq, q⟩ => ?_)⟩
  subst ex
  cases r1
  refine wpAny_Slice (thn (po_none.run pins s1 σ H1 (fun o G => o = none ∧ G = H1) I1 ⟨rfl, rfl⟩) ?_)
  rintro low s2 ⟨_, G2, I2, plow, rfl, e2⟩
  subst e2
  refine thn (po_none.run pins s2 σ G2 (fun o G => o = none ∧ G = G2) I2 ⟨rfl, rfl⟩) ?_
  rintro top s3 ⟨_, G3, I3, ptop, rfl, e3⟩
  subst e3
  refine thn ((po_some (pe_un un_neg pe_int)).run pins s3 σ G3 (fun o G => o = some (-1) ∧ G = G3) I3 ⟨1, rfl, -1, rfl, rfl, rfl⟩) ?_
  rintro step s4 ⟨o, G4, I4, pstep, rfl, e4⟩
  subst e4
  have I5 := I4.kept (h' := s4.heap.push { cls := .type "slice", data := .fields #[low, top, step] }) (t' := s4.toks) fun b ob g => Heap.get?_push_of_some _ g
  obtain ⟨us, rv, isT, small⟩ := I5.tuple sq
  have len : us.length = xs.length := rv.length.symm
  refine tail_any (ops := [.ref a, .ref s4.heap.objs.size]) isT.typeIs PyProof.Rows.slot_tuple_getitem.lookup ?_ (by with_unfolding_all rfl)
  refine back_tup isT (Heap.IsSliceOf.new _ low top step) plow ptop pstep ?_ (by omega)
  exact ⟨.ref _, _, I5.laid (t' := s4.toks) (o := .tup xs.reverse) (fun b ob g => Heap.get?_push_of_some _ g) (Nat.le_refl _) ⟨by rw [List.length_reverse]; exact small, _, rv.reverse, IsTup.new _ _⟩, rfl, q _ (I5.hok.fresh (Nat.le_refl _))⟩
end
/-! ### small data -/
structure Oq (d : PyData) (dp wt : Nat) : Prop where
  sh : PyData.showable d = true
  ls : PyData.leavesShort 40 d = true
  dp : PyData.depth d ≤ dp
  wt : PyData.weight d ≤ wt
theorem Oq.mono {d : PyData} {dp wt dp' wt' : Nat} (h : Oq d dp wt) (a : dp ≤ dp') (b : wt ≤ wt') : Oq d dp' wt' := ⟨h.sh, h.ls, Nat.le_trans h.dp a, Nat.le_trans h.wt b⟩
theorem Oq.all {dp wt : Nat} : ∀ {ds : List PyData}, (∀ d ∈ ds, Oq d dp wt) → PyData.showableAll ds = true ∧ PyData.leavesShortAll 40 ds = true ∧ PyData.depthAll ds ≤ dp ∧ PyData.weightAll ds ≤ (wt + 1) * ds.length
  | [], _ => ⟨by simp [PyData.showableAll], by simp [PyData.leavesShortAll], by simp [PyData.depthAll], by simp [PyData.weightAll]⟩
  | d :: ds, h => by
    obtain ⟨i1, i3, i4, i5⟩ := Oq.all (ds := ds) fun x hx => h x (List.mem_cons_of_mem _ hx)
    obtain ⟨j1, j3, j4, j5⟩ := h d List.mem_cons_self
    refine ⟨?_, ?_, ?_, ?_⟩ <;> simp only [PyData.showableAll, PyData.leavesShortAll, PyData.depthAll, PyData.weightAll, i1, i3, j1, j3]
    · rfl
    · rfl
    · omega
    · rw [List.length_cons, Nat.mul_succ]; omega
theorem Oq.tup {ds : List PyData} {dp wt n : Nat} (h : ∀ d ∈ ds, Oq d dp wt) (l : ds.length ≤ n) : Oq (.tuple ds) (dp + 1) ((wt + 1) * n) := by
  obtain ⟨i1, i3, i4, i5⟩ := Oq.all h
  have m : (wt + 1) * ds.length ≤ (wt + 1) * n := Nat.mul_le_mul_left _ l
  refine ⟨?_, ?_, ?_, ?_⟩ <;> simp only [PyData.showable, PyData.leavesShort, PyData.depth, PyData.weight, i1, i3]
  · omega
  · omega
theorem Oq.lst {ds : List PyData} {dp wt n : Nat} (h : ∀ d ∈ ds, Oq d dp wt) (l : ds.length ≤ n) : Oq (.list ds) (dp + 1) ((wt + 1) * n) := by
  obtain ⟨i1, i3, i4, i5⟩ := Oq.all h
  have m : (wt + 1) * ds.length ≤ (wt + 1) * n := Nat.mul_le_mul_left _ l
  refine ⟨?_, ?_, ?_, ?_⟩ <;> simp only [PyData.showable, PyData.leavesShort, PyData.depth, PyData.weight, i1, i3]
  · omega
  · omega
theorem Oq.dic {d : PyData} {dp wt : Nat} (h : Oq d dp wt) : Oq (.dict [(.str "a", d)]) (dp + 1) (wt + 3) := by
  obtain ⟨i1, i3, i4, i5⟩ := h
  have s1 : PyData.leavesShort 40 (.str "a") = true := by decide +kernel
  have s2 : PyData.weight (.str "a") = 1 := by decide +kernel
  refine ⟨?_, ?_, ?_, ?_⟩ <;> simp only [PyData.showable, PyData.showableKv, PyData.leavesShort, PyData.leavesShortKv, PyData.depth, PyData.depthKv, PyData.weight, PyData.weightKv, i1, i3]
  · rfl
  · decide +kernel
  · omega
  · have : (Str.ofString "a").cps.size = 1 := by decide +kernel
    omega
theorem Oq.dic0 : Oq (.dict []) 1 0 := ⟨by decide +kernel, by decide +kernel, by decide +kernel, by decide +kernel⟩
def okL (d : PyData) : Bool := PyData.showable d && PyData.leavesShort 40 d && decide (PyData.depth d ≤ 0) && decide (PyData.weight d ≤ 101)
theorem okL.oq {d : PyData} (h : okL d = true) : Oq d 0 101 := by
  unfold okL at h
  simp only [Bool.and_eq_true, decide_eq_true_eq] at h
  exact ⟨h.1.1.1, h.1.1.2, h.1.2, h.2⟩
theorem okL_upto : ((List.range 64).all fun n => okL (.int (n : Int))) = true := by decide +kernel
theorem okL_nat {n : Nat} (h : n < 64) : okL (.int (n : Int)) = true := List.all_eq_true.mp okL_upto n (List.mem_range.mpr h)
theorem oq_int {v : Int} (h0 : 0 ≤ v) (h1 : v < 64) : Oq (.int v) 0 101 := by
  have e := okL_nat (n := v.toNat) (by omega)
  rw [Int.toNat_of_nonneg h0] at e
  exact okL.oq e
theorem oq_less : Oq (.int (-1)) 0 101 := okL.oq (by decide +kernel)
theorem oq_great : Oq (.int ((10 : Int) ^ (30 : Int).toNat)) 0 101 := okL.oq (by decide +kernel)
theorem oq_bl (b : Bool) : Oq (.bool b) 0 101 := okL.oq (by cases b <;> decide +kernel)
theorem oq_non : Oq .none 0 101 := okL.oq (by decide +kernel)
theorem oq_str0 : Oq (.str "0") 0 101 := okL.oq (by decide +kernel)
theorem oq_void : Oq (.str "") 0 101 := okL.oq (by decide +kernel)
theorem oq_row : Oq (.str "row") 0 101 := okL.oq (by decide +kernel)
/-- a tuple of data -/
def TupD (E : Addr → Prop) (H : Hp) (a : Addr) (ds : List PyData) : Prop := ∃ xs, H a = some (.tup xs) ∧ ¬ E a ∧ DqAll E H xs ds
theorem TupD.fr {E : Addr → Prop} {H H' : Hp} {a : Addr} {ds : List PyData} (h : TupD E H a ds) (f : FrX E H H') : TupD E H' a ds := by
  obtain ⟨xs, e, n, t⟩ := h
  exact ⟨xs, f _ _ n e, n, t.fr f⟩
theorem TupD.dq {E : Addr → Prop} {H : Hp} {a : Addr} {ds : List PyData} (h : TupD E H a ds) : Dq E H (.ref a) (.tuple ds) := by
  obtain ⟨xs, e, n, t⟩ := h
  exact .tup e n t
section
variable {K : PySem.W.Frag} {E : Addr → Prop} {G : Hp} {Q : VK} {n : Nat}
theorem cat_ok {a b : Addr} {ds es : List PyData} (out : ∀ c, G c = none → ¬ E c) (ha : TupD E G a ds) (hb : TupD E G b es) (few : ds.length + es.length ≤ 1000) (q : ∀ c G', Same G G' → TupD E G' c (ds ++ es) → Q (.ref c) G') : rCatA K (.ref a) (.ref b) G Q := by
  obtain ⟨xs, ea, na, ta⟩ := id ha
  obtain ⟨ys, eb, nb, tb⟩ := id hb
  have lx := ta.len
  have ly := tb.len
  refine ⟨a, b, xs, ys, rfl, rfl, .inl (.inl ea), .inl (.inl eb), Nat.le_trans (show xs.length + ys.length ≤ 1000 by omega) (by decide), fun z => ?_, fun _ z => ?_, fun _ _ c nc => ?_⟩
  · subst z
    cases ta
    exact q b G (Same.refl _) hb
  · subst z
    cases tb
    rw [List.append_nil] at q
    exact q a G (Same.refl _) ha
  · have s := same_upd (o := .tup (xs ++ ys)) nc
    exact q c _ s ⟨_, upd_same, out c nc, (ta.app tb).fr (FrX.same s)⟩
theorem cut_sub {α : Type} (xs : List α) (i j : Nat) : ((xs.drop i).take j).Sublist xs := (List.take_sublist _ _).trans (List.drop_sublist _ _)
theorem sl_ok {a : Addr} {ds : List PyData} {lo hi : Option Int} (out : ∀ c, G c = none → ¬ E c) (ha : TupD E G a ds) (q : ∀ c G' es, Same G G' → TupD E G' c es → es.Sublist ds → Q (.ref c) G') : rSlA K (.ref a) lo hi G Q := by
  obtain ⟨xs, ea, na, ta⟩ := id ha
  refine ⟨a, xs, rfl, .inl (.inl ea), fun _ => q a G ds (Same.refl _) ha (List.Sublist.refl _), fun _ c nc => ?_⟩
  have s := same_upd (o := .tup (cutV xs lo hi)) nc
  refine q c _ _ s ⟨_, upd_same, out c nc, ?_⟩ (cut_sub ds (sIx xs.length 0 lo) (sIx xs.length xs.length hi - sIx xs.length 0 lo))
  exact ((ta.drop _).take _).fr (FrX.same s)
theorem back_ok {te : TE} {σ : L2.St} {a : Addr} {ds : List PyData} (out : ∀ c, G c = none → ¬ E c) (ha : TupD E G a ds) (hte : ∀ R : VK, R (.ref a) G → te σ G R) (q : ∀ c G', Same G G' → TupD E G' c ds.reverse → Q (.ref c) G') : tBackT K te σ G Q := by
  obtain ⟨xs, ea, na, ta⟩ := id ha
  refine hte _ ⟨a, xs, rfl, .inl (.inl ea), fun c nc => ?_⟩
  have s := same_upd (o := .tup xs.reverse) nc
  exact q c _ s ⟨_, upd_same, out c nc, ta.rev.fr (FrX.same s)⟩
end
theorem both_of {c : Bool} {ta tb : TE} {σ : L2.St} {H : Hp} {K1 : VK} (C : V → Hp → Prop) (hk : ∀ x H', C x H' → K1 x H') (ha : (∀ x H', C x H' → K1 x H') → c = true → ta σ H K1) (hb : (∀ x H', C x H' → K1 x H') → ¬ c = true → tb σ H K1) : if c = true then ta σ H K1 else tb σ H K1 := by
  by_cases e : c = true
  · rw [if_pos e]; exact ha hk e
  · rw [if_neg e]; exact hb hk e
mutual
/-- another place where nothing stands -/
theorem Dq.more {E : Addr → Prop} {H : Hp} {l : Addr} (nl : H l = none) : ∀ (d : PyData) {v : V}, Dq E H v d → Dq (fun a => E a ∨ a = l) H v d
  | .none, _, h => by cases h; exact .non
  | .bool b, _, h => by cases h; exact .bl b
  | .int i, _, h => by cases h; exact .int i
  | .str x, _, h => by cases h; exact .str x
  | .list ds, _, h => by
    cases h with
    | lst e n y t => exact .lst e (fun z => z.elim n (ne_of_none e nl)) y (DqAll.more nl ds t)
  | .tuple ds, _, h => by
    cases h with
    | tup e n t => exact .tup e (fun z => z.elim n (ne_of_none e nl)) (DqAll.more nl ds t)
  | .dict [], _, h => by
    cases h with
    | dic e n t => cases t; exact .dic (kvs := []) e (fun z => z.elim n (ne_of_none e nl)) .nil
  | .dict [(.str k, d)], _, h => by
    cases h with
    | dic e n t =>
      cases t with
      | one h => exact .dic (kvs := [(k, _)]) e (fun z => z.elim n (ne_of_none e nl)) (.one (Dq.more nl d h))
  | .dict ((.none, _) :: _), _, h => by cases h with | dic e n t => cases t
  | .dict ((.bool _, _) :: _), _, h => by cases h with | dic e n t => cases t
  | .dict ((.int _, _) :: _), _, h => by cases h with | dic e n t => cases t
  | .dict ((.list _, _) :: _), _, h => by cases h with | dic e n t => cases t
  | .dict ((.tuple _, _) :: _), _, h => by cases h with | dic e n t => cases t
  | .dict ((.dict _, _) :: _), _, h => by cases h with | dic e n t => cases t
  | .dict ((.str _, _) :: _ :: _), _, h => by cases h with | dic e n t => cases t
theorem DqAll.more {E : Addr → Prop} {H : Hp} {l : Addr} (nl : H l = none) : ∀ (ds : List PyData) {vs : List V}, DqAll E H vs ds → DqAll (fun a => E a ∨ a = l) H vs ds
  | [], _, h => by cases h; exact .nil
  | d :: ds, _, h => by
    cases h with
    | cons x t => exact .cons (Dq.more nl d x) (DqAll.more nl ds t)
end
mutual
theorem Dq.less {E F : Addr → Prop} {H : Hp} (f : ∀ a, F a → E a) : ∀ (d : PyData) {v : V}, Dq E H v d → Dq F H v d
  | .none, _, h => by cases h; exact .non
  | .bool b, _, h => by cases h; exact .bl b
  | .int i, _, h => by cases h; exact .int i
  | .str x, _, h => by cases h; exact .str x
  | .list ds, _, h => by
    cases h with
    | lst e n y t => exact .lst e (fun z => n (f _ z)) y (DqAll.less f ds t)
  | .tuple ds, _, h => by
    cases h with
    | tup e n t => exact .tup e (fun z => n (f _ z)) (DqAll.less f ds t)
  | .dict [], _, h => by
    cases h with
    | dic e n t => cases t; exact .dic (kvs := []) e (fun z => n (f _ z)) .nil
  | .dict [(.str k, d)], _, h => by
    cases h with
    | dic e n t =>
      cases t with
      | one h => exact .dic (kvs := [(k, _)]) e (fun z => n (f _ z)) (.one (Dq.less f d h))
  | .dict ((.none, _) :: _), _, h => by cases h with | dic e n t => cases t
  | .dict ((.bool _, _) :: _), _, h => by cases h with | dic e n t => cases t
  | .dict ((.int _, _) :: _), _, h => by cases h with | dic e n t => cases t
  | .dict ((.list _, _) :: _), _, h => by cases h with | dic e n t => cases t
  | .dict ((.tuple _, _) :: _), _, h => by cases h with | dic e n t => cases t
  | .dict ((.dict _, _) :: _), _, h => by cases h with | dic e n t => cases t
  | .dict ((.str _, _) :: _ :: _), _, h => by cases h with | dic e n t => cases t
theorem DqAll.less {E F : Addr → Prop} {H : Hp} (f : ∀ a, F a → E a) : ∀ (ds : List PyData) {vs : List V}, DqAll E H vs ds → DqAll F H vs ds
  | [], _, h => by cases h; exact .nil
  | d :: ds, _, h => by
    cases h with
    | cons x t => exact .cons (Dq.less f d x) (DqAll.less f ds t)
end
/-- things of some size -/
def Thgs (E : Addr → Prop) (H : Hp) (vs : List V) (dp wt : Nat) : Prop := ∀ v ∈ vs, ∃ d, Dq E H v d ∧ Oq d dp wt
theorem Thgs.fr {E : Addr → Prop} {H H' : Hp} {vs : List V} {dp wt : Nat} (h : Thgs E H vs dp wt) (f : FrX E H H') : Thgs E H' vs dp wt := fun v hv => by
  obtain ⟨d, a, b⟩ := h v hv
  exact ⟨d, a.fr f, b⟩
theorem Thgs.nil {E : Addr → Prop} {H : Hp} {dp wt : Nat} : Thgs E H [] dp wt := fun v hv => nomatch hv
theorem Thgs.cons {E : Addr → Prop} {H : Hp} {v : V} {vs : List V} {d : PyData} {dp wt : Nat} (h : Dq E H v d) (o : Oq d dp wt) (t : Thgs E H vs dp wt) : Thgs E H (v :: vs) dp wt := fun x hx => by
  rcases List.mem_cons.mp hx with rfl | hx
  · exact ⟨d, h, o⟩
  · exact t x hx
/-- each of these places holds a list -/
def LstN (N : Addr → Prop) (G : Hp) : Prop := ∀ x, N x → ∃ zs, G x = some (.lst zs)
theorem LstN.same {N : Addr → Prop} {G G' : Hp} (h : LstN N G) (s : Same G G') : LstN N G' := fun x nx => by
  obtain ⟨zs, e⟩ := h x nx
  exact ⟨zs, s _ _ e⟩
theorem LstN.fr {N : Addr → Prop} {G G' : Hp} {p : Addr} {n : Nat} (h : LstN N G) (f : Fr p G G') (hp : PotAt G' p n) : LstN N G' := fun x nx => by
  by_cases e : x = p
  · obtain ⟨g, c, u, z, _⟩ := hp
    exact ⟨_, e ▸ z⟩
  · obtain ⟨zs, z⟩ := h x nx
    exact ⟨zs, f _ _ e z⟩
theorem LstN.out {N : Addr → Prop} {G : Hp} (h : LstN N G) (c : Addr) (nc : G c = none) : ¬ N c := fun z => by
  obtain ⟨zs, e⟩ := h c z
  rw [nc] at e
  cases e
theorem LstN.tup {N : Addr → Prop} {G : Hp} {c : Addr} {us : List V} (h : LstN N G) (nc : G c = some (.tup us)) : ¬ N c := fun z => by
  obtain ⟨zs, e⟩ := h c z
  rw [nc] at e
  cases e
theorem tcons_run {te : TE} {ta : TA} {σ : L2.St} {H : Hp} {R : List V → Hp → Prop} (h : te σ H fun v H1 => ta σ H1 fun vs H2 => R (v :: vs) H2) : tCons te ta σ H R := h
theorem LstN.more {N : Addr → Prop} {G : Hp} {l : Addr} {zs : List V} (h : LstN N G) (e : G l = some (.lst zs)) : LstN (fun a => N a ∨ a = l) G := fun x hx => hx.elim (h x) fun z => ⟨zs, z ▸ e⟩
theorem lstOne {p : Addr} {G : Hp} {n : Nat} (h : PotAt G p n) : LstN (· = p) G := fun x hx => by
  obtain ⟨g, c, u, z, _⟩ := h
  exact ⟨_, hx ▸ z⟩
theorem Oq.shows {E : Addr → Prop} {G : Hp} {v : V} {d : PyData} {dp wt : Nat} (h : Dq E G v d) (o : Oq d dp wt) (hd : dp ≤ 60) (hw : wt ≤ 110000) : Shows G v d.shown := by
  have z := PyData.shown_le 40 (by decide) d o.ls
  have s : 5000000 ≤ sizeLine := by decide
  have w := o.wt
  exact ⟨E, d, h, o.sh, Nat.le_trans o.dp hd, by omega, rfl⟩
section
variable {K : PySem.W.Frag}
/-- all(..) over a tuple of data -/
theorem all_tupD {te : TE} {σ : L2.St} {G : Hp} {Q : VK} {i s : Nat} {a : Addr} {xs : List V} {ds : List PyData} {E : Addr → Prop} {f : PyData → Bool} (ha : σ[i]? = some (some (.ref a))) (hx : G a = some (.tup xs)) (da : DqAll E G xs ds) (hw : ∀ v, wipe ((wipe σ [s]).set s (some v)) [s] = wipe σ [s])
    (hte : ∀ (v : V) (d : PyData) (G1 : Hp) (Q' : VK), Dq E G1 v d → Same G G1 → (∀ (B : Bool) G', B = f d → Same G1 G' → Q' (.bl B) G') → te ((wipe σ [s]).set s (some v)) G1 Q') (few : xs.length < sizeLine)
    (q : ∀ (B : Bool) G', B = ds.all f → Same G G' → Q (.bl B) G') : tCB (rAll K) (tCons (tLc (iTup K (tVar i)) (gName s) tYes te [s]) tNil) σ G Q := by
  refine ⟨_, ha, a, rfl, ⟨_, .inl (.inl hx)⟩, fun D nD => ?_⟩
  refine lc_tup (xs := xs) (fun m G' => Same G G' ∧ G' D = some (.lst (((ds.take m).map f).map V.bl))) ⟨same_upd nD, upd_same⟩ (fun m G' _ h => .inl (.inl (h.1 _ _ hx))) ?_ ?_
  · rintro m v G' hv ⟨sm, hD⟩
    refine ⟨hw _, ?_⟩
    simp only [tYes, ↓reduceIte]
    have hm : m < xs.length := (List.getElem?_eq_some_iff.mp hv).1
    have hl := da.len
    obtain ⟨d, hd, dv⟩ : ∃ d, ds[m]? = some d ∧ Dq E G v d := by
      have at_ : ∀ {us : List V} {es : List PyData} {m : Nat} {v : V}, DqAll E G us es → us[m]? = some v → ∃ d, es[m]? = some d ∧ Dq E G v d := by
        intro us
        induction us with
        | nil => intro es m v h e; cases e
        | cons u us ih =>
          intro es m v h e
          cases h with
          | cons x y =>
            cases m with
            | zero => cases e; exact ⟨_, rfl, x⟩
            | succ m =>
              obtain ⟨d', h1, h2⟩ := ih y (show us[m]? = some v from e)
              exact ⟨d', h1, h2⟩
      exact at_ da hv
    refine hte v d G' _ (dv.fr (FrX.same sm)) sm fun B G2 e s2 => ⟨_, s2 _ _ hD, ?_, ?_, ?_⟩
    · rw [List.length_map, List.length_map, List.length_take]
      omega
    · intro b' o e'
      rw [upd_ne (ne_of_none e' nD)]
      exact s2 _ _ (sm _ _ e')
    · rw [upd_same, List.take_add_one, hd, List.map_append, List.map_append, e]
      rfl
  · rintro G' ⟨sm, hD⟩
    have hl := da.len
    rw [hl, List.take_length] at hD
    refine ⟨D, ds.map f, rfl, .inl (.inl hD), ?_⟩
    refine q _ _ ?_ sm
    rw [List.all_map]
    rfl
end
end C2

namespace C2
set_option Elab.async false
set_option linter.all false
set_option maxRecDepth 100000
set_option maxHeartbeats 1000000
open PySem PySem.Spec PyProof.Rows L2 HT
/-! ### what is wanted at a crossing -/
def hasL (xs ys : List Int) (i j : Nat) (l : Int) : Bool := if l = 0 then decide (xs.getD j 0 = (i : Int)) else if l = 1 then decide (ys.getD i 0 = (j : Int)) else if l = 2 then decide (xs.getD j 0 = (i : Int) + 1) else decide (ys.getD i 0 = (j : Int) + 1)
def byL (i j : Nat) (l : Int) : Int × Int := if l = 0 then ((i : Int) - 1, (j : Int)) else if l = 1 then ((i : Int), (j : Int) - 1) else if l = 2 then ((i : Int) + 1, (j : Int)) else ((i : Int), (j : Int) + 1)
def wantOf (xs ys : List Int) (i j : Nat) (l : Int) : List (Int × Int) := if hasL xs ys i j l = true then [] else [byL i j l]
def wantL (xs ys : List Int) (i j : Nat) : List (Int × Int) := wantOf xs ys i j (crI xs i j) ++ wantOf xs ys i j (ccI ys i j)
/-- a list of pairs -/
def PrAt (G : Hp) (v : V) (p : Int × Int) : Prop := ∃ c, v = .ref c ∧ G c = some (.tup [.int p.1, .int p.2])
inductive Prs (G : Hp) : List V → List (Int × Int) → Prop
  | nil : Prs G [] []
  | cons {v : V} {vs : List V} {p : Int × Int} {ps : List (Int × Int)} (h : PrAt G v p) (t : Prs G vs ps) : Prs G (v :: vs) (p :: ps)
theorem PrAt.same {G G' : Hp} {v : V} {p : Int × Int} (h : PrAt G v p) (s : Same G G') : PrAt G' v p := by
  obtain ⟨c, e, z⟩ := h
  exact ⟨c, e, s _ _ z⟩
theorem Prs.same {G G' : Hp} (s : Same G G') : ∀ {vs : List V} {ps : List (Int × Int)}, Prs G vs ps → Prs G' vs ps
  | _, _, .nil => .nil
  | _, _, .cons h t => .cons (h.same s) (Prs.same s t)
/-- tuples stay where only lists and dicts change -/
def Keeps (G G' : Hp) : Prop := ∀ b xs, G b = some (.tup xs) → G' b = some (.tup xs)
theorem Keeps.same {G G' : Hp} (s : Same G G') : Keeps G G' := fun b xs h => s _ _ h
theorem Keeps.trans {G G' G'' : Hp} (a : Keeps G G') (b : Keeps G' G'') : Keeps G G'' := fun c xs h => b _ _ (a _ _ h)
theorem Keeps.at {G : Hp} {d : Addr} {o o' : HO} (e : G d = some o) (nt : ∀ xs, o ≠ .tup xs) : Keeps G (upd G d o') := fun b xs h => by
  rw [upd_ne (fun z => by rw [z, e] at h; cases h; exact nt _ rfl)]
  exact h
theorem Prs.keeps {G G' : Hp} (s : Keeps G G') : ∀ {vs : List V} {ps : List (Int × Int)}, Prs G vs ps → Prs G' vs ps
  | _, _, .nil => .nil
  | _, _, .cons ⟨c, e, z⟩ t => .cons ⟨c, e, s _ _ z⟩ (Prs.keeps s t)
theorem Prs.len {G : Hp} : ∀ {vs : List V} {ps : List (Int × Int)}, Prs G vs ps → vs.length = ps.length
  | _, _, .nil => rfl
  | _, _, .cons _ t => by rw [List.length_cons, List.length_cons, Prs.len t]
theorem Prs.app {G : Hp} : ∀ {vs us : List V} {ps qs : List (Int × Int)}, Prs G vs ps → Prs G us qs → Prs G (vs ++ us) (ps ++ qs)
  | _, _, _, _, .nil, u => u
  | _, _, _, _, .cons h t, u => .cons h (Prs.app t u)
theorem Prs.at_ {G : Hp} : ∀ {vs : List V} {ps : List (Int × Int)} {m : Nat} {v : V}, Prs G vs ps → vs[m]? = some v → ∃ p, ps[m]? = some p ∧ PrAt G v p
  | _, _, 0, _, .cons h t, e => by cases e; exact ⟨_, rfl, h⟩
  | _, _, m + 1, _, .cons h t, e => by
    obtain ⟨p, a, b⟩ := Prs.at_ (m := m) t (by simpa using e)
    exact ⟨p, by simpa using a, b⟩
/-- a crossing -/
def crD (a b : Int) : PyData → Option (Nat × Nat)
  | .tuple [.int i, .int j] => if (0 ≤ i ∧ i ≤ a - 1) ∧ 0 ≤ j ∧ j ≤ b - 1 then some (i.toNat, j.toNat) else none
  | _ => none
def btD (hi : Int) : PyData → Bool
  | .int i => decide (0 ≤ i ∧ i ≤ hi)
  | _ => false
theorem bt_eq {E : Addr → Prop} {H : Hp} {v : V} {d : PyData} {hi : Int} (h : Dq E H v d) : betw v 0 hi = btD hi d := by
  cases h <;> rfl
def crB (a b : Int) : PyData → Bool
  | .tuple [x, y] => btD (a - 1) x && btD (b - 1) y
  | _ => false
theorem crB_no {a b : Int} {d : PyData} (h : ∀ x y, d ≠ .tuple [x, y]) : crB a b d = false := by
  cases d with
  | tuple ds =>
    match ds with
    | [] => rfl
    | [x] => rfl
    | [x, y] => exact absurd rfl (h x y)
    | x :: y :: z :: r => rfl
  | _ => rfl
theorem btD_int {hi : Int} {d : PyData} (h : btD hi d = true) : ∃ i : Nat, d = .int (i : Int) ∧ (i : Int) ≤ hi := by
  cases d with
  | int i =>
    have := of_decide_eq_true h
    exact ⟨i.toNat, by rw [Int.toNat_of_nonneg this.1], by omega⟩
  | _ => cases h
theorem crB_yes {a b : Int} {d : PyData} (h : crB a b d = true) : ∃ i j : Nat, d = .tuple [.int (i : Int), .int (j : Int)] ∧ (i : Int) < a ∧ (j : Int) < b := by
  cases d with
  | tuple ds =>
    match ds, h with
    | [x, y], h =>
      obtain ⟨h1, h2⟩ := Bool.and_eq_true_iff.mp h
      obtain ⟨i, rfl, hi⟩ := btD_int h1
      obtain ⟨j, rfl, hj⟩ := btD_int h2
      exact ⟨i, j, rfl, by omega, by omega⟩
  | _ => cases h
theorem decI {i j : Int} : decide (V.int i = V.int j) = decide (i = j) := by simp
section
variable {P : Program} {w : World} {K : PySem.W.Frag} {mg : Str → Option Value} {base : Heap}
abbrev NHw : List Str := ["pick", "wire", "xs", "ys", "word", "number", "place", "places"]
theorem scHas : FnScope NHw ["pick", "wire"] (defScope sHas) := ⟨rfl, rfl, rfl, by decide +kernel, rfl, by decide +kernel, by decide +kernel⟩
def spHas : Sp := fun vs H Q _ => ∃ (t c : Addr) (a b n : Nat) (p : Int) (xs ys : List Int), vs = [.ref t, .ref c] ∧ PickAt H t a b xs ys ∧
  ((H c = some (.tup [.str "row", .int (n : Int), .int p]) ∧ n < b ∧ Q (.bl (decide (xs.getD n 0 = p))) H) ∨ (H c = some (.tup [.str "column", .int (n : Int), .int p]) ∧ n < a ∧ Q (.bl (decide (ys.getD n 0 = p))) H))
theorem ok_has {f : Addr} {fd : FuncData} {k : Nat} (F : Fun K "has_wire" "has_wire" sHas f fd) : FnOk P w K mg base CX0 (k + 1) f fd ["pick", "wire"] spHas := by
  refine F.ok scHas (fun vs H Q E h => ?_) (fun cdv A outer s H vs Q E hr h => ?_)
  · obtain ⟨t, c, a, b, n, p, xs, ys, rfl, _⟩ := h
    rfl
  · obtain ⟨t, c, a, b, n, p, xs, ys, rfl, ⟨tx, ty, h1, h2, h3, l1, l2, u1, u2⟩, h⟩ := h
    have nd := scHas.nd
    refine ⟨_, pss_cons (ps_asg (pv 0) (pg_tup rfl (pgs_cons (pg_name (i := 2) nd rfl (.inl rfl)) (pgs_cons (pg_name (i := 3) nd rfl (.inl rfl)) pgs_nil))))
      (pss_cons (ps_asg (pv 1) (pg_tup rfl (pgs_cons (pg_name (i := 4) nd rfl (.inl rfl)) (pgs_cons (pg_name (i := 5) nd rfl (.inl rfl)) (pgs_cons (pg_name (i := 6) nd rfl (.inl rfl)) pgs_nil)))))
      (pss_cons (ps_set (i := 7) nd rfl (.inl rfl) (pe_ifExp (pt_cmpR op_eq (pv 4) pe_str (nomark _)) (pv 2) (pv 3)))
      (pss_one (ps_ret (pe_cmpR op_eq (pe_ix ix_tup (pv 7) (pv 5) (fun _ _ => rfl)) (pv 6) (nomark _)))))), ?_⟩
    refine ⟨.ref t, rfl, t, _, rfl, .inl (.inl h1), rfl, _, _, rfl, _, _, rfl, rfl, ?_⟩
    rcases h with ⟨hc, hn, q⟩ | ⟨hc, hn, q⟩
    · refine ⟨.ref c, rfl, c, _, rfl, .inl (.inl hc), rfl, _, _, rfl, _, _, rfl, _, _, rfl, rfl, ?_⟩
      refine ⟨.str "row", rfl, rfl, _, rfl, iteT ⟨.ref tx, rfl, ?_⟩⟩
      refine ⟨.ref tx, rfl, .int (n : Int), rfl, tx, _, _, _, rfl, rfl, .inl (.inl h2), atD (by omega), .int p, rfl, rfl, ?_⟩
      rw [decI]
      exact q
    · refine ⟨.ref c, rfl, c, _, rfl, .inl (.inl hc), rfl, _, _, rfl, _, _, rfl, _, _, rfl, rfl, ?_⟩
      refine ⟨.str "column", rfl, rfl, _, rfl, iteF ⟨.ref ty, rfl, ?_⟩⟩
      refine ⟨.ref ty, rfl, .int (n : Int), rfl, ty, _, _, _, rfl, rfl, .inl (.inl h3), atD (by omega), .int p, rfl, rfl, ?_⟩
      rw [decI]
      exact q
theorem scLegs : FnScope ["i", "j"] ["i", "j"] (defScope sLegs) := ⟨rfl, rfl, rfl, by decide +kernel, rfl, by decide +kernel, by decide +kernel⟩
def spLegs : Sp := fun vs H Q _ => ∃ (i j : Int), vs = [.int i, .int j] ∧ ∀ (T c0 c1 c2 c3 : Addr) H', Same H H' → H' T = some (.tup [.ref c0, .ref c1, .ref c2, .ref c3]) → H' c0 = some (.tup [.str "row", .int j, .int i]) → H' c1 = some (.tup [.str "column", .int i, .int j]) → H' c2 = some (.tup [.str "row", .int j, .int (i + 1)]) → H' c3 = some (.tup [.str "column", .int i, .int (j + 1)]) → Q (.ref T) H'
theorem ok_legs {f : Addr} {fd : FuncData} {k : Nat} (F : Fun K "legs" "legs" sLegs f fd) : FnOk P w K mg base CX0 (k + 1) f fd ["i", "j"] spLegs := by
  refine F.ok scLegs (fun vs H Q E h => ?_) (fun cdv A outer s H vs Q E hr h => ?_)
  · obtain ⟨i, j, rfl, _⟩ := h
    rfl
  · obtain ⟨i, j, rfl, q⟩ := h
    have nd := scLegs.nd
    refine ⟨_, pss_one (ps_ret (pe_tup (pa_cons (pe_tup (pa_cons pe_str (pa_cons (pv 1) (pa_cons (pv 0) pa_nil)))) (pa_cons (pe_tup (pa_cons pe_str (pa_cons (pv 0) (pa_cons (pv 1) pa_nil)))) (pa_cons (pe_tup (pa_cons pe_str (pa_cons (pv 1) (pa_cons (pe_op op_add (pv 0) pe_int) pa_nil)))) (pa_cons (pe_tup (pa_cons pe_str (pa_cons (pv 0) (pa_cons (pe_op op_add (pv 1) pe_int) pa_nil)))) pa_nil)))))), ?_⟩
    refine ⟨.int j, rfl, .int i, rfl, by show 3 ≤ sizeLine; decide, fun a1 m1 => ?_⟩
    refine ⟨.int i, rfl, .int j, rfl, by show 3 ≤ sizeLine; decide, fun a2 m2 => ?_⟩
    refine ⟨.int j, rfl, .int i, rfl, i, 1, rfl, rfl, by show 3 ≤ sizeLine; decide, fun a3 m3 => ?_⟩
    refine ⟨.int i, rfl, .int j, rfl, j, 1, rfl, rfl, by show 3 ≤ sizeLine; decide, fun a4 m4 => ?_⟩
    refine ⟨by show 4 ≤ sizeLine; decide, fun a5 m5 => ?_⟩
    have r1 := same_upd (o := .tup [.str "row", .int j, .int i]) m1
    have r2 := same_upd (o := .tup [.str "column", .int i, .int j]) m2
    have r3 := same_upd (o := .tup [.str "row", .int j, .int (i + 1)]) m3
    have r4 := same_upd (o := .tup [.str "column", .int i, .int (j + 1)]) m4
    have r5 := same_upd (o := .tup [.ref a1, .ref a2, .ref a3, .ref a4]) m5
    exact q a5 a1 a2 a3 a4 _ (r1.trans (r2.trans (r3.trans (r4.trans r5)))) upd_same ((r2.trans (r3.trans (r4.trans r5))) _ _ upd_same) ((r3.trans (r4.trans r5)) _ _ upd_same) ((r4.trans r5) _ _ upd_same) (r5 _ _ upd_same)
theorem scCross : FnScope ["a", "b", "thing"] ["a", "b", "thing"] (defScope sCross) := ⟨rfl, rfl, rfl, by decide +kernel, rfl, by decide +kernel, by decide +kernel⟩
def spCross : Sp := fun vs H Q _ => ∃ (N : Addr → Prop) (v : V) (d : PyData) (a b : Int), vs = [.int a, .int b, v] ∧ Dq N H v d ∧ ∀ B : Bool, B = crB a b d → Q (.bl B) H
theorem ok_cross {f fW fB fU : Addr} {fd fdW fdB fdU : FuncData} {k : Nat} (F : Fun K "is_crossing" "is_crossing" sCross f fd) (FW : Fun K "is_whole" "is_whole" sPWhole fW fdW) (FB : Fun K "is_between" "is_between" sBetween fB fdB) (FU : Fun K "is_tuple_of" "is_tuple_of" sTupOf fU fdU)
    (bW : Binds K fdW ["thing"] []) (bB : Binds K fdB ["thing", "least", "most"] []) (bU : Binds K fdU ["thing", "many"] []) (gW : mg "is_whole" = some (.ref fW)) (gB : mg "is_between" = some (.ref fB)) (gU : mg "is_tuple_of" = some (.ref fU))
    (mi : mg "isinstance" = none) (mint : mg "int" = none) (mbool : mg "bool" = none) (mtup : mg "tuple" = none) (ml : mg "len" = none) : FnOk P w K mg base CX0 (k + 3) f fd ["a", "b", "thing"] spCross := by
  have GB : FnOk P w K mg base CX0 (k + 2) fB fdB ["thing", "least", "most"] spBetween := ok_between FB FW bW gW mi mint mbool
  have GU : FnOk P w K mg base CX0 1 fU fdU ["thing", "many"] spTupOf := ok_tupOf FU mi mtup ml
  refine F.ok scCross (fun vs H Q E h => ?_) (fun cdv A outer s H vs Q E hr h => ?_)
  · obtain ⟨N, v, d, a, b, rfl, _⟩ := h
    rfl
  · obtain ⟨N, v, d, a, b, rfl, t, k⟩ := h
    have nd := scCross.nd
    refine ⟨_, pss_one (ps_ret (pe_and (pe_call GU (hr.mono (by omega)) (by rfl) gU FU.kp bU .nil pass0 (pa_cons (pv 2) (pa_cons pe_int pa_nil))) (pe_and (pe_call GB (hr.mono (by omega)) (by rfl) gB FB.kp bB .nil pass0 (pa_cons (pe_ix ix_tup (pv 2) pe_int (fun _ _ => rfl)) (pa_cons pe_int (pa_cons (pe_op op_sub (pv 0) pe_int) pa_nil)))) (pe_one (pe_call GB (hr.mono (by omega)) (by rfl) gB FB.kp bB .nil pass0 (pa_cons (pe_ix ix_tup (pv 2) pe_int (fun _ _ => rfl)) (pa_cons pe_int (pa_cons (pe_op op_sub (pv 1) pe_int) pa_nil)))))))), ?_⟩
    obtain ⟨o, th, yes, no⟩ := t.thg
    refine ⟨v, rfl, v, o, 2, rfl, th, _, rfl, ite2 (fun e => ?_) (fun e => ?_)⟩
    · cases o with
      | none => cases e
      | some xs =>
        obtain ⟨ds, rfl, da⟩ := yes xs rfl
        obtain ⟨c, rfl, ec⟩ := th.some_tup
        have el : ((xs.length : Nat) : Int) = 2 := of_decide_eq_true e
        have l := da.len
        match xs, ds, da, el, l with
        | [u, v], [x, y], .cons hx (.cons hy .nil), _, _ =>
          obtain ⟨o1, th1, _⟩ := hx.thg
          obtain ⟨o2, th2, _⟩ := hy.thg
          refine ⟨.ref c, rfl, c, _, 0, u, rfl, rfl, .inl (.inl ec), rfl, .int a, rfl, a, 1, rfl, rfl, u, o1, 0, a - 1, rfl, th1, _, rfl, ite2 (fun z => ?_) (fun z => ?_)⟩
          · refine ⟨.ref c, rfl, c, _, 1, v, rfl, rfl, .inl (.inl ec), rfl, .int b, rfl, b, 1, rfl, rfl, v, o2, 0, b - 1, rfl, th2, k _ ?_⟩
            rw [bt_eq hx] at z
            rw [bt_eq hy]
            show _ = (_ && _)
            rw [z, Bool.true_and]
          · refine k _ ?_
            rw [bt_eq hx] at z
            show _ = (_ && _)
            rw [Bool.eq_false_iff.mpr z, Bool.false_and]
    · refine k _ (crB_no fun x y z => e ?_).symm
      cases o with
      | none => exact absurd z (no rfl _)
      | some xs =>
        obtain ⟨ds, rfl, da⟩ := yes xs rfl
        cases z
        exact decide_eq_true (by rw [da.len]; rfl)
end
end C2

namespace C2
set_option Elab.async false
set_option linter.all false
set_option maxRecDepth 100000
set_option maxHeartbeats 1000000
open PySem PySem.Spec PyProof.Rows L2 HT
section
variable {P : Program} {w : World} {K : PySem.W.Frag} {mg : Str → Option Value} {base : Heap}
abbrev NWa : List Str := ["pick", "i", "j", "found", "leg", "across", "up"]
theorem scWanted : FnScope NWa ["pick", "i", "j"] (defScope sWanted) := ⟨rfl, rfl, rfl, by decide +kernel, rfl, by decide +kernel, by decide +kernel⟩
def spWanted : Sp := fun vs H Q _ => ∃ (t : Addr) (a b i j : Nat) (xs ys : List Int), vs = [.ref t, .int (i : Int), .int (j : Int)] ∧ PickAt H t a b xs ys ∧ i < a ∧ j < b ∧
  ∀ l us H', Same H H' → H l = none → H' l = some (.lst us) → Prs H' us (wantL xs ys i j) → Q (.ref l) H'
def Beyond (K : PySem.W.Frag) (cB e0 e1 e2 e3 : Addr) : Prop := ∀ G : Hp, SqT K G cB [.ref e0, .ref e1, .ref e2, .ref e3] ∧ SqT K G e0 [.int (-1), .int 0] ∧ SqT K G e1 [.int 0, .int (-1)] ∧ SqT K G e2 [.int 1, .int 0] ∧ SqT K G e3 [.int 0, .int 1]
def WInv (H : Hp) (T l t : Addr) (i j : Nat) (xs ys : List Int) (r : Nat) (σ : L2.St) (G : Hp) : Prop := Same H G ∧ G T = some (.tup [.int (crI xs i j), .int (ccI ys i j)]) ∧ (∃ us, G l = some (.lst us) ∧ us.length ≤ r ∧ Prs G us (([crI xs i j, ccI ys i j].take r).flatMap (wantOf xs ys i j))) ∧ ∃ y4 y5 y6, σ = [some (.ref t), some (.int (i : Int)), some (.int (j : Int)), some (.ref l), y4, y5, y6]
theorem ok_wanted {f fC fH fL cB e0 e1 e2 e3 : Addr} {fd fdC fdH fdL : FuncData} {k : Nat} (F : Fun K "wanted" "wanted" sWanted f fd) (FC : Fun K "comes" "comes" sComes fC fdC) (FH : Fun K "has_wire" "has_wire" sHas fH fdH) (FL : Fun K "legs" "legs" sLegs fL fdL)
    (bC : Binds K fdC ["pick", "i", "j"] []) (bH : Binds K fdH ["pick", "wire"] []) (bL : Binds K fdL ["i", "j"] []) (gC : mg "comes" = some (.ref fC)) (gH : mg "has_wire" = some (.ref fH)) (gL : mg "legs" = some (.ref fL)) (gBy : mg "BEYOND" = some (.ref cB)) (hBy : Beyond K cB e0 e1 e2 e3) : FnOk P w K mg base CX0 (k + 2) f fd ["pick", "i", "j"] spWanted := by
  have GC : FnOk P w K mg base CX0 (k + 1) fC fdC ["pick", "i", "j"] spComes := ok_comes FC
  have GH : FnOk P w K mg base CX0 (k + 1) fH fdH ["pick", "wire"] spHas := ok_has FH
  have GL : FnOk P w K mg base CX0 (k + 1) fL fdL ["i", "j"] spLegs := ok_legs FL
  refine F.ok scWanted (fun vs H Q E h => ?_) (fun cdv A outer s H vs Q E hr h => ?_)
  · obtain ⟨t, a, b, i, j, xs, ys, rfl, _⟩ := h
    rfl
  obtain ⟨t, a, b, i, j, xs, ys, rfl, pk, hi, hj, q⟩ := h
  have nd := scWanted.nd
  refine ⟨_, pss_cons (ps_set (i := 3) nd rfl (.inl rfl) (pe_lst pa_nil))
      (pss_cons (ps_for PassesOwn.never rfl (pi_tup (pe_call GC hr (by rfl) gC FC.kp bC .nil pass0 (pa_cons (pv 0) (pa_cons (pv 1) (pa_cons (pv 2) pa_nil))))) (pg_name (i := 4) nd rfl (.inl rfl)) (pss_one (ps_if (pt_not (pt_val (pe_call GH hr (by rfl) gH FH.kp bH .nil pass0 (pa_cons (pv 0) (pa_cons (pe_ix ix_tup (pe_call GL hr (by rfl) gL FL.kp bL .nil pass0 (pa_cons (pv 1) (pa_cons (pv 2) pa_nil))) (pv 4) (fun _ _ => rfl)) pa_nil))))) (pss_cons (ps_asg (pe_ix ix_tup (pe_glob (v := .ref cB) (by rfl) gBy rfl) (pv 4) (fun _ _ => rfl)) (pg_tup rfl (pgs_cons (pg_name (i := 5) nd rfl (.inl rfl)) (pgs_cons (pg_name (i := 6) nd rfl (.inl rfl)) pgs_nil))))
      (pss_one (ps_expr (pe_bm PySem.F.plainAttrs_list PySem.F.slot_list_append PySem.F.type_list_append mt_append (pv 3) (pa_cons (pe_tup (pa_cons (pe_op op_add (pv 1) (pv 5)) (pa_cons (pe_op op_add (pv 2) (pv 6)) pa_nil))) pa_nil))))) pss_nil)))
      (pss_one (ps_ret (pv 3)))), ?_⟩
  refine ⟨by decide, fun l nl => ?_⟩
  have s1 := same_upd (o := .lst []) nl
  refine ⟨.ref t, rfl, .int (i : Int), rfl, .int (j : Int), rfl, t, a, b, i, j, xs, ys, rfl, pk.same s1, hi, hj, fun H1 T sm1 nT hT => ⟨T, rfl, ⟨_, .inl (.inl hT)⟩, ?_⟩⟩
  have lT : T ≠ l := fun z => by rw [z, upd_same] at nT; cases nT
  have l1 : H1 l = some (.lst []) := sm1 _ _ upd_same
  refine for_tup (xs := [.int (crI xs i j), .int (ccI ys i j)]) (WInv H T l t i j xs ys)
    ⟨s1.trans sm1, hT, ⟨[], l1, Nat.le_refl _, .nil⟩, _, _, _, rfl⟩ (fun r σ G _ h => .inl (.inl h.2.1)) ?_ ?_
  · rintro r x σ G hx ⟨sm, hT', ⟨us, hl, lus, pr⟩, y4, y5, y6, rfl⟩
    have r2 : r < 2 := (List.getElem?_eq_some_iff.mp hx).1
    obtain ⟨lg, rfl, hlg, nx⟩ : ∃ lg : Int, x = .int lg ∧ (lg = 0 ∨ lg = 1 ∨ lg = 2 ∨ lg = 3) ∧ ([crI xs i j, ccI ys i j].take (r + 1)).flatMap (wantOf xs ys i j) = ([crI xs i j, ccI ys i j].take r).flatMap (wantOf xs ys i j) ++ wantOf xs ys i j lg := by
      match r, r2, hx with
      | 0, _, hx =>
        cases hx
        refine ⟨crI xs i j, rfl, ?_, by simp⟩
        unfold crI
        split
        · exact .inl rfl
        · exact .inr (.inr (.inl rfl))
      | 1, _, hx =>
        cases hx
        refine ⟨ccI ys i j, rfl, ?_, by simp⟩
        unfold ccI
        split
        · exact .inr (.inl rfl)
        · exact .inr (.inr (.inr rfl))
    refine ⟨.ref t, rfl, .int (i : Int), rfl, .int (j : Int), rfl, (i : Int), (j : Int), rfl, fun T2 c0 c1 c2 c3 G2 sg hT2 h0 h1 h2 h3 => ⟨.int lg, rfl, ?_⟩⟩
    have pk2 := (pk.same sm).same sg
    have hl2 := sg _ _ hl
    have pr2 := pr.same sg
    have hT3 := sg _ _ hT'
    have smg := sm.trans sg
    have skip : ∀ y5 y6, wantOf xs ys i j lg = [] → WInv H T l t i j xs ys (r + 1) [some (.ref t), some (.int (i : Int)), some (.int (j : Int)), some (.ref l), some (.int lg), y5, y6] G2 := fun y5 y6 e => ⟨smg, hT3, ⟨us, hl2, by omega, by rw [nx, e, List.append_nil]; exact pr2⟩, _, _, _, rfl⟩
    have fin : ∀ (dx dy : Int) (c : Addr), G2 c = none → wantOf xs ys i j lg = [((i : Int) + dx, (j : Int) + dy)] → WInv H T l t i j xs ys (r + 1) [some (.ref t), some (.int (i : Int)), some (.int (j : Int)), some (.ref l), some (.int lg), some (.int dx), some (.int dy)] (upd (upd G2 c (.tup [.int ((i : Int) + dx), .int ((j : Int) + dy)])) l (.lst (us ++ [.ref c]))) := fun dx dy c nc e => by
      have sc := same_upd (o := .tup [.int ((i : Int) + dx), .int ((j : Int) + dy)]) nc
      have hl3 := sc _ _ hl2
      have kp : Keeps _ (upd (upd G2 c (.tup [.int ((i : Int) + dx), .int ((j : Int) + dy)])) l (.lst (us ++ [.ref c]))) := Keeps.at hl3 (fun xs z => nomatch z)
      refine ⟨fun b' o' e' => ?_, kp _ _ (sc _ _ hT3), ⟨us ++ [.ref c], upd_same, by rw [List.length_append, List.length_singleton]; omega, ?_⟩, _, _, _, rfl⟩
      · rw [upd_ne (ne_of_none e' nl)]
        exact sc _ _ (smg _ _ e')
      · rw [nx, e]
        exact ((pr2.same sc).keeps kp).app (.cons ⟨c, rfl, kp _ _ upd_same⟩ .nil)
    rcases hlg with rfl | rfl | rfl | rfl
    · refine ⟨T2, _, 0, .ref c0, rfl, rfl, .inl (.inl hT2), rfl, t, c0, a, b, j, (i : Int), xs, ys, rfl, pk2, .inl ⟨h0, by omega, _, rfl, ite2 (fun z => ?_) (fun z => ?_)⟩⟩
      · have nz : ¬ xs.getD j 0 = (i : Int) := fun y => by rw [decide_eq_true y] at z; cases z
        refine ⟨.int 0, rfl, cB, _, 0, .ref e0, rfl, rfl, (hBy _).1, rfl, e0, _, rfl, (hBy _).2.1, rfl, _, _, rfl, _, _, rfl, rfl, ?_⟩
        refine ⟨.ref l, rfl, .inl ⟨rfl, _, .inl (.inl hl2)⟩, .int (i : Int), rfl, .int (-1), rfl, (i : Int), (-1), rfl, rfl, .int (j : Int), rfl, .int (0), rfl, (j : Int), (0), rfl, rfl, by show 2 ≤ sizeLine; decide, fun c nc => ⟨l, us, .ref c, rfl, rfl, same_upd nc _ _ hl2, Nat.lt_of_lt_of_le (show us.length < 1000 by omega) (by decide), fin _ _ c nc ?_⟩⟩
        unfold wantOf
        rw [if_neg (c := hasL xs ys i j 0 = true) (fun y => nz (of_decide_eq_true y))]
        simp [byL] <;> omega
      · have yz : xs.getD j 0 = (i : Int) := by
          by_cases y : xs.getD j 0 = (i : Int)
          · exact y
          · exact absurd (by rw [decide_eq_false y]; rfl) z
        refine skip _ _ ?_
        unfold wantOf
        rw [if_pos (c := hasL xs ys i j 0 = true) (decide_eq_true yz)]
    · refine ⟨T2, _, 1, .ref c1, rfl, rfl, .inl (.inl hT2), rfl, t, c1, a, b, i, (j : Int), xs, ys, rfl, pk2, .inr ⟨h1, by omega, _, rfl, ite2 (fun z => ?_) (fun z => ?_)⟩⟩
      · have nz : ¬ ys.getD i 0 = (j : Int) := fun y => by rw [decide_eq_true y] at z; cases z
        refine ⟨.int 1, rfl, cB, _, 1, .ref e1, rfl, rfl, (hBy _).1, rfl, e1, _, rfl, (hBy _).2.2.1, rfl, _, _, rfl, _, _, rfl, rfl, ?_⟩
        refine ⟨.ref l, rfl, .inl ⟨rfl, _, .inl (.inl hl2)⟩, .int (i : Int), rfl, .int (0), rfl, (i : Int), (0), rfl, rfl, .int (j : Int), rfl, .int (-1), rfl, (j : Int), (-1), rfl, rfl, by show 2 ≤ sizeLine; decide, fun c nc => ⟨l, us, .ref c, rfl, rfl, same_upd nc _ _ hl2, Nat.lt_of_lt_of_le (show us.length < 1000 by omega) (by decide), fin _ _ c nc ?_⟩⟩
        unfold wantOf
        rw [if_neg (c := hasL xs ys i j 1 = true) (fun y => nz (of_decide_eq_true y))]
        simp [byL] <;> omega
      · have yz : ys.getD i 0 = (j : Int) := by
          by_cases y : ys.getD i 0 = (j : Int)
          · exact y
          · exact absurd (by rw [decide_eq_false y]; rfl) z
        refine skip _ _ ?_
        unfold wantOf
        rw [if_pos (c := hasL xs ys i j 1 = true) (decide_eq_true yz)]
    · refine ⟨T2, _, 2, .ref c2, rfl, rfl, .inl (.inl hT2), rfl, t, c2, a, b, j, (i : Int) + 1, xs, ys, rfl, pk2, .inl ⟨h2, by omega, _, rfl, ite2 (fun z => ?_) (fun z => ?_)⟩⟩
      · have nz : ¬ xs.getD j 0 = (i : Int) + 1 := fun y => by rw [decide_eq_true y] at z; cases z
        refine ⟨.int 2, rfl, cB, _, 2, .ref e2, rfl, rfl, (hBy _).1, rfl, e2, _, rfl, (hBy _).2.2.2.1, rfl, _, _, rfl, _, _, rfl, rfl, ?_⟩
        refine ⟨.ref l, rfl, .inl ⟨rfl, _, .inl (.inl hl2)⟩, .int (i : Int), rfl, .int (1), rfl, (i : Int), (1), rfl, rfl, .int (j : Int), rfl, .int (0), rfl, (j : Int), (0), rfl, rfl, by show 2 ≤ sizeLine; decide, fun c nc => ⟨l, us, .ref c, rfl, rfl, same_upd nc _ _ hl2, Nat.lt_of_lt_of_le (show us.length < 1000 by omega) (by decide), fin _ _ c nc ?_⟩⟩
        unfold wantOf
        rw [if_neg (c := hasL xs ys i j 2 = true) (fun y => nz (of_decide_eq_true y))]
        simp [byL] <;> omega
      · have yz : xs.getD j 0 = (i : Int) + 1 := by
          by_cases y : xs.getD j 0 = (i : Int) + 1
          · exact y
          · exact absurd (by rw [decide_eq_false y]; rfl) z
        refine skip _ _ ?_
        unfold wantOf
        rw [if_pos (c := hasL xs ys i j 2 = true) (decide_eq_true yz)]
    · refine ⟨T2, _, 3, .ref c3, rfl, rfl, .inl (.inl hT2), rfl, t, c3, a, b, i, (j : Int) + 1, xs, ys, rfl, pk2, .inr ⟨h3, by omega, _, rfl, ite2 (fun z => ?_) (fun z => ?_)⟩⟩
      · have nz : ¬ ys.getD i 0 = (j : Int) + 1 := fun y => by rw [decide_eq_true y] at z; cases z
        refine ⟨.int 3, rfl, cB, _, 3, .ref e3, rfl, rfl, (hBy _).1, rfl, e3, _, rfl, (hBy _).2.2.2.2, rfl, _, _, rfl, _, _, rfl, rfl, ?_⟩
        refine ⟨.ref l, rfl, .inl ⟨rfl, _, .inl (.inl hl2)⟩, .int (i : Int), rfl, .int (0), rfl, (i : Int), (0), rfl, rfl, .int (j : Int), rfl, .int (1), rfl, (j : Int), (1), rfl, rfl, by show 2 ≤ sizeLine; decide, fun c nc => ⟨l, us, .ref c, rfl, rfl, same_upd nc _ _ hl2, Nat.lt_of_lt_of_le (show us.length < 1000 by omega) (by decide), fin _ _ c nc ?_⟩⟩
        unfold wantOf
        rw [if_neg (c := hasL xs ys i j 3 = true) (fun y => nz (of_decide_eq_true y))]
        simp [byL] <;> omega
      · have yz : ys.getD i 0 = (j : Int) + 1 := by
          by_cases y : ys.getD i 0 = (j : Int) + 1
          · exact y
          · exact absurd (by rw [decide_eq_false y]; rfl) z
        refine skip _ _ ?_
        unfold wantOf
        rw [if_pos (c := hasL xs ys i j 3 = true) (decide_eq_true yz)]
  · rintro σ G ⟨sm, hT', ⟨us, hl, lus, pr⟩, y4, y5, y6, rfl⟩
    refine ⟨.ref l, rfl, q l us G sm nl hl ?_⟩
    have e : ([crI xs i j, ccI ys i j].take 2).flatMap (wantOf xs ys i j) = wantL xs ys i j := by simp [wantL]
    rw [← e]
    exact pr
end
end C2

namespace C2
set_option Elab.async false
set_option linter.all false
set_option maxRecDepth 100000
set_option maxHeartbeats 1000000
open PySem PySem.Spec PyProof.Rows L2 HT
theorem DqAll.at_ {E : Addr → Prop} {G : Hp} : ∀ {us : List V} {es : List PyData} {m : Nat} {v : V}, DqAll E G us es → us[m]? = some v → ∃ d, es[m]? = some d ∧ Dq E G v d := by
  intro us
  induction us with
  | nil => intro es m v h e; cases e
  | cons u us ih =>
    intro es m v h e
    cases h with
    | cons x y =>
      cases m with
      | zero => cases e; exact ⟨_, rfl, x⟩
      | succ m =>
        obtain ⟨d', h1, h2⟩ := ih y (show us[m]? = some v from e)
        exact ⟨d', h1, h2⟩
theorem all_bad {f : PyData → Bool} {ds : List PyData} {m : Nat} {d : PyData} (h : ds[m]? = some d) (e : f d = false) : ds.all f = false := by
  cases z : ds.all f with
  | false => rfl
  | true => rw [List.all_eq_true.mp z d (List.mem_of_getElem? h)] at e; cases e
theorem all_next {f : PyData → Bool} {ds : List PyData} {m : Nat} {d : PyData} (t : (ds.take m).all f = true) (h : ds[m]? = some d) (e : f d = true) : (ds.take (m + 1)).all f = true := by
  rw [List.take_add_one, h, List.all_append, t]
  simp [e]
/-! ### dicts of pairs -/
def kOf (p : Int × Int) : List Key × V := ([.inl p.1, .inl p.2], .bl true)
theorem key_pair {x y : Int} {p : Int × Int} : ((kOf p).1 = [.inl x, .inl y]) ↔ p = (x, y) := by
  constructor
  · intro h
    have h1 := (List.cons.inj h).1
    have h2 := (List.cons.inj (List.cons.inj h).2).1
    exact Prod.ext (Sum.inl.inj h1) (Sum.inl.inj h2)
  · rintro rfl
    rfl
theorem pairs_in {x y : Int} : ∀ {ps : List (Int × Int)}, (valV (ps.map kOf) [.inl x, .inl y]).isSome = decide ((x, y) ∈ ps)
  | [] => rfl
  | p :: ps => by
    have ih := pairs_in (x := x) (y := y) (ps := ps)
    unfold valV at ih ⊢
    rw [List.map_cons, List.find?_cons]
    by_cases h : p = (x, y)
    · rw [decide_eq_true (key_pair.mpr h), decide_eq_true (List.mem_cons.mpr (.inl h.symm))]
      rfl
    · rw [decide_eq_false (fun z => h (key_pair.mp z))]
      refine ih.trans ?_
      by_cases m : (x, y) ∈ ps
      · rw [decide_eq_true m, decide_eq_true (List.mem_cons_of_mem _ m)]
      · rw [decide_eq_false m, decide_eq_false (fun z => (List.mem_cons.mp z).elim (fun e => h e.symm) m)]
theorem pairs_put {x y : Int} {ps : List (Int × Int)} (h : (x, y) ∉ ps) : putK (ps.map kOf) [.inl x, .inl y] (.bl true) = (ps ++ [(x, y)]).map kOf := by
  unfold putK
  rw [if_neg, List.map_append]
  · rfl
  · intro z
    obtain ⟨kv, hk, e⟩ := List.any_eq_true.mp z
    obtain ⟨p, hp, rfl⟩ := List.mem_map.mp hk
    exact h (key_pair.mp (of_decide_eq_true e) ▸ hp)
/-! ### an order, looked at -/
def crP : PyData → Int × Int
  | .tuple [.int i, .int j] => (i, j)
  | _ => (0, 0)
def ordGo (xs ys : List Int) (a b : Int) : List (Int × Int) → List PyData → Bool
  | _, [] => true
  | ps, d :: ds => crB a b d && (!decide (crP d ∈ ps) && ((wantL xs ys (crP d).1.toNat (crP d).2.toNat).all (fun p => decide (p ∈ ps)) && ordGo xs ys a b (ps ++ [crP d]) ds))
def ordD (xs ys : List Int) (a b : Int) : PyData → Bool
  | .tuple ds => decide ((ds.length : Int) = a * b) && ordGo xs ys a b [] ds
  | _ => false
theorem ordD_no {xs ys : List Int} {a b : Int} {d : PyData} (h : ∀ ds, d ≠ .tuple ds) : ordD xs ys a b d = false := by
  cases d with
  | tuple ds => exact absurd rfl (h ds)
  | _ => rfl
theorem drop_at {α : Type} : ∀ {l : List α} {m : Nat} {x : α}, l[m]? = some x → l.drop m = x :: l.drop (m + 1)
  | _ :: _, 0, _, e => by cases e; rfl
  | _ :: l, m + 1, _, e => drop_at (l := l) (m := m) (by simpa using e)
section
variable {P : Program} {w : World} {K : PySem.W.Frag} {mg : Str → Option Value} {base : Heap}
/-- all of a list of pairs stand in the dict -/
theorem all_in {σ : L2.St} {G : Hp} {Q : VK} {tw : TE} {sl dl : Nat} {d : Addr} {ps ws : List (Int × Int)} (few : ws.length ≤ 10)
    (hw : ∀ v, wipe ((wipe σ [sl]).set sl (some v)) [sl] = wipe σ [sl]) (hv : ∀ v : V, ((wipe σ [sl]).set sl (some v))[sl]? = some (some v)) (hd : ∀ v : V, ((wipe σ [sl]).set sl (some v))[dl]? = some (some (.ref d)))
    (hG : G d = some (.dT (ps.map kOf))) (htw : ∀ R : VK, (∀ l us G', Same G G' → G' l = some (.lst us) → Prs G' us ws → R (.ref l) G') → tw σ G R)
    (q : ∀ (B : Bool) G', B = ws.all (fun p => decide (p ∈ ps)) → Same G G' → Q (.bl B) G') : tCB (rAll K) (tCons (tLc (iList K tw) (gName sl) tYes (tDIn (tVar sl) (tVar dl)) [sl]) tNil) σ G Q := by
  refine tcb_run (htw _ fun l us G1 s1 hl pr => ⟨l, rfl, ⟨_, .inl (.inl hl)⟩, fun D nD => ?_⟩)
  have lus := pr.len
  refine lc_list (xs := us) (fun m G' => Same G1 G' ∧ G' D = some (.lst (((ws.take m).map fun p => decide (p ∈ ps)).map V.bl))) ⟨same_upd nD, upd_same⟩ (fun m G' _ h => .inl (.inl (h.1 _ _ hl))) ?_ ?_
  · rintro m v G' hx ⟨sm, hD⟩
    refine ⟨hw _, ?_⟩
    simp only [tYes, ↓reduceIte]
    have hm : m < us.length := (List.getElem?_eq_some_iff.mp hx).1
    obtain ⟨p, hp, c, rfl, hc⟩ := pr.at_ hx
    refine ⟨.ref c, hv _, .ref d, hd _, d, _, rfl, DGet.t (k := [.inl p.1, .inl p.2]) (sm _ _ (s1 _ _ hG)) (sm _ _ hc), _, hD, ?_, ?_, ?_⟩
    · rw [List.length_map, List.length_map, List.length_take]
      exact Nat.lt_of_le_of_lt (Nat.min_le_right _ _) (Nat.lt_of_lt_of_le (show ws.length < 1000 by omega) (by decide))
    · intro b' o e'
      rw [upd_ne (ne_of_none e' nD)]
      exact sm _ _ e'
    · rw [upd_same, List.take_add_one, hp, List.map_append, List.map_append, pairs_in]
      rfl
  · rintro G' ⟨sm, hD⟩
    rw [lus, List.take_length] at hD
    refine ⟨D, _, rfl, .inl (.inl hD), ?_⟩
    refine q _ _ ?_ (s1.trans sm)
    rw [List.all_map]
    rfl
abbrev NSh : List Str := ["pick", "thing", "a", "b", "passed", "crossing", "i", "j", "one"]
theorem scShows : FnScope NSh ["pick", "thing"] (defScope sShows) := ⟨rfl, rfl, rfl, by decide +kernel, rfl, by decide +kernel, by decide +kernel⟩
def teOne : TE := tDIn (tVar 8) (tVar 4)
def spShows : Sp := fun vs H Q _ => ∃ (t : Addr) (N : Addr → Prop) (v : V) (d : PyData) (a b : Nat) (xs ys : List Int), vs = [.ref t, v] ∧ PickAt H t a b xs ys ∧ a ≤ 40 ∧ b ≤ 40 ∧ Dq N H v d ∧ ∀ (B : Bool) H', B = ordD xs ys (a : Int) (b : Int) d → Same H H' → Q (.bl B) H'
theorem ok_shows {f fS fR fA fC fH fL fW fB fU cB e0 e1 e2 e3 : Addr} {fd fdS fdR fdA fdC fdH fdL fdW fdB fdU : FuncData} {k : Nat} (F : Fun K "shows_order" "shows_order" sShows f fd) (FS : Fun K "size_of_pick" "size_of_pick" sSizeP fS fdS) (FR : Fun K "is_crossing" "is_crossing" sCross fR fdR) (FA : Fun K "wanted" "wanted" sWanted fA fdA) (FC : Fun K "comes" "comes" sComes fC fdC) (FH : Fun K "has_wire" "has_wire" sHas fH fdH) (FL : Fun K "legs" "legs" sLegs fL fdL) (FW : Fun K "is_whole" "is_whole" sPWhole fW fdW) (FB : Fun K "is_between" "is_between" sBetween fB fdB) (FU : Fun K "is_tuple_of" "is_tuple_of" sTupOf fU fdU)
    (bS : Binds K fdS ["pick"] []) (bR : Binds K fdR ["a", "b", "thing"] []) (bA : Binds K fdA ["pick", "i", "j"] []) (bC : Binds K fdC ["pick", "i", "j"] []) (bH : Binds K fdH ["pick", "wire"] []) (bL : Binds K fdL ["i", "j"] []) (bW : Binds K fdW ["thing"] []) (bB : Binds K fdB ["thing", "least", "most"] []) (bU : Binds K fdU ["thing", "many"] [])
    (gS : mg "size_of_pick" = some (.ref fS)) (gR : mg "is_crossing" = some (.ref fR)) (gA : mg "wanted" = some (.ref fA)) (gC : mg "comes" = some (.ref fC)) (gH : mg "has_wire" = some (.ref fH)) (gL : mg "legs" = some (.ref fL)) (gW : mg "is_whole" = some (.ref fW)) (gB : mg "is_between" = some (.ref fB)) (gU : mg "is_tuple_of" = some (.ref fU)) (gBy : mg "BEYOND" = some (.ref cB)) (hBy : Beyond K cB e0 e1 e2 e3)
    (mi : mg "isinstance" = none) (mint : mg "int" = none) (mbool : mg "bool" = none) (mtup : mg "tuple" = none) (ml : mg "len" = none) (mall : mg "all" = none) : FnOk P w K mg base CX0 (k + 4) f fd ["pick", "thing"] spShows := by
  have GS : FnOk P w K mg base CX0 1 fS fdS ["pick"] spSizeP := ok_sizep FS ml
  have GU : FnOk P w K mg base CX0 1 fU fdU ["thing", "many"] spTupOf := ok_tupOf FU mi mtup ml
  have GR : FnOk P w K mg base CX0 3 fR fdR ["a", "b", "thing"] spCross := ok_cross FR FW FB FU bW bB bU gW gB gU mi mint mbool mtup ml
  have GA : FnOk P w K mg base CX0 2 fA fdA ["pick", "i", "j"] spWanted := ok_wanted FA FC FH FL bC bH bL gC gH gL gBy hBy
  refine F.ok scShows (fun vs H Q E h => ?_) (fun cdv A outer s H vs Q E hr h => ?_)
  · obtain ⟨t, N, v, d, a, b, xs, ys, rfl, _⟩ := h
    rfl
  obtain ⟨t, N, v, d, a, b, xs, ys, rfl, pk, a40, b40, qv, k⟩ := h
  have nd := scShows.nd
  refine ⟨_, pss_cons (ps_asg (pe_call GS (hr.mono (by omega)) (by rfl) gS FS.kp bS .nil pass0 (pa_cons (pv 0) pa_nil)) (pg_tup rfl (pgs_cons (pg_name (i := 2) nd rfl (.inl rfl)) (pgs_cons (pg_name (i := 3) nd rfl (.inl rfl)) pgs_nil))))
      (pss_cons (ps_if (pt_not (pt_val (pe_call GU (hr.mono (by omega)) (by rfl) gU FU.kp bU .nil pass0 (pa_cons (pv 1) (pa_cons (pe_op op_mul (pv 2) (pv 3)) pa_nil))))) (pss_one (ps_ret pe_bl)) pss_nil)
      (pss_cons (ps_set (i := 4) nd rfl (.inr rfl) pe_dnewT)
      (pss_cons (ps_for PassesOwn.never rfl (pi_tup (pv 1)) (pg_name (i := 5) nd rfl (.inl rfl)) (pss_cons (ps_if (PW.pt (pw_or (pt_not (pt_val (pe_call GR (hr.mono (by omega)) (by rfl) gR FR.kp bR .nil pass0 (pa_cons (pv 2) (pa_cons (pv 3) (pa_cons (pv 5) pa_nil)))))) (pw_or1 (pt_cmp (pc_din (Nat.lt_of_le_of_lt (Nat.add_le_add_left (by decide) _) hr.units) (pv 5) (pv 4)))))) (pss_one (ps_ret pe_bl)) pss_nil)
      (pss_cons (ps_asg (pv 5) (pg_tup rfl (pgs_cons (pg_name (i := 6) nd rfl (.inl rfl)) (pgs_cons (pg_name (i := 7) nd rfl (.inl rfl)) pgs_nil))))
      (pss_cons (ps_if (pt_not (pt_val (pe_callB (cr_all rfl) (by rfl) mall (by decide +kernel) (pa_cons (pe_lc (own := [("one", 8)]) (g := gName 8) (tt := tYes) (te := teOne) rfl nd (pi_list (pe_call GA (hr.mono (by omega)) (by rfl) gA FA.kp bA .nil pass0 (pa_cons (pv 0) (pa_cons (pv 6) (pa_cons (pv 7) pa_nil))))) (blkOk_by (own := [("one", 8)]) (N := NSh) (sc := defScope sShows) (by decide +kernel)) (fun _ _ _ _ _ => pg_name (i := 8) nd rfl (.inl rfl)) (fun _ _ _ _ _ => pts_nil) (fun _ _ _ _ _ => (pe_cmp (pc_din (Nat.lt_of_le_of_lt (Nat.add_le_add_left (by decide) _) hr.units) (pv 8) (pv 4))))) pa_nil)))) (pss_one (ps_ret pe_bl)) pss_nil)
      (pss_one (ps_dput (Nat.lt_of_le_of_lt (Nat.add_le_add_left (by decide) _) hr.units) (pv 4) (pv 5) pe_bl (by rfl)))))))
      (pss_one (ps_ret pe_bl))))), ?_⟩
  refine ⟨.ref t, rfl, t, a, b, xs, ys, rfl, pk, fun H1 T s1 nT hT => ?_⟩
  refine ⟨T, _, rfl, .inl (.inl hT), rfl, _, _, rfl, _, _, rfl, rfl, ?_⟩
  have qv1 := qv.fr (FrX.same s1)
  obtain ⟨o, th, yes, no⟩ := qv1.thg
  refine ⟨v, rfl, .int (a : Int), rfl, .int (b : Int), rfl, (a : Int), (b : Int), rfl, rfl, .inl ⟨by omega, by omega⟩, v, o, (a : Int) * (b : Int), rfl, th, lenIs o _, rfl, ite2 (fun e => ?_) (fun e => ?_)⟩
  · refine k _ _ ?_ s1
    cases o with
    | none => exact (ordD_no (no rfl)).symm
    | some us =>
      obtain ⟨ds, rfl, da⟩ := yes us rfl
      have ne : ¬ ((us.length : Nat) : Int) = (a : Int) * (b : Int) := fun y => by
        have : lenIs (some us) ((a : Int) * (b : Int)) = true := decide_eq_true y
        rw [this] at e
        cases e
      show _ = (decide _ && _)
      rw [← da.len, decide_eq_false ne, Bool.false_and]
  have e' : lenIs o ((a : Int) * (b : Int)) = true := by simpa using e
  cases o with
  | none => cases e'
  | some us =>
  obtain ⟨ds, rfl, da⟩ := yes us rfl
  obtain ⟨c, rfl, ec⟩ := th.some_tup
  have el : ((us.length : Nat) : Int) = (a : Int) * (b : Int) := of_decide_eq_true e'
  have oE : ordD xs ys (a : Int) (b : Int) (.tuple ds) = ordGo xs ys (a : Int) (b : Int) [] ds := by
    show (decide _ && _) = _
    rw [← da.len, decide_eq_true el, Bool.true_and]
  rw [oE] at k
  intro D nD
  have s2 := same_upd (o := .dT []) nD
  refine ⟨.ref c, rfl, c, rfl, ⟨_, .inl (.inl (s2 _ _ ec))⟩, ?_⟩
  have nDc : c ≠ D := ne_of_none ec nD
  refine for_tup (xs := us) (fun m σ G => Same H1 G ∧ m ≤ us.length ∧ (∃ ps : List (Int × Int), G D = some (.dT (ps.map kOf)) ∧ ps.length = m ∧ ordGo xs ys (a : Int) (b : Int) [] ds = ordGo xs ys (a : Int) (b : Int) ps (ds.drop m)) ∧ ∃ y5 y6 y7, σ = [some (.ref t), some (.ref c), some (.int (a : Int)), some (.int (b : Int)), some (.ref D), y5, y6, y7, none])
    ⟨s2, Nat.zero_le _, ⟨[], upd_same, rfl, rfl⟩, _, _, _, rfl⟩ (fun m σ G _ h => .inl (.inl (h.1 _ _ ec))) ?_ ?_
  · rintro m x σ G hx ⟨sm, _, ⟨ps, hD, lps, go⟩, y5, y6, y7, rfl⟩
    have hm : m < us.length := (List.getElem?_eq_some_iff.mp hx).1
    have u1600 : us.length ≤ 1600 := by
      have : (a : Int) * (b : Int) ≤ 40 * 40 := Int.mul_le_mul (by omega) (by omega) (by omega) (by omega)
      omega
    obtain ⟨d1, hd1, q1⟩ := da.at_ hx
    have q1' := q1.fr (FrX.same sm)
    rw [drop_at hd1] at go
    refine ⟨.int (a : Int), rfl, .int (b : Int), rfl, x, rfl, N, x, d1, (a : Int), (b : Int), rfl, q1', fun B hB => ⟨B, rfl, ite2 (fun z => ?_) (fun z => ?_)⟩⟩
    · refine iteT (k _ _ ?_ (s1.trans sm))
      have : crB (a : Int) (b : Int) d1 = false := by rw [← hB]; simpa using z
      rw [go]
      show _ = (_ && _)
      rw [this, Bool.false_and]
    have yc : crB (a : Int) (b : Int) d1 = true := by rw [← hB]; simpa using z
    obtain ⟨i, j, rfl, hi, hj⟩ := crB_yes yc
    have go2 : ordGo xs ys (a : Int) (b : Int) [] ds = (!decide (((i : Int), (j : Int)) ∈ ps) && ((wantL xs ys i j).all (fun p => decide (p ∈ ps)) && ordGo xs ys (a : Int) (b : Int) (ps ++ [((i : Int), (j : Int))]) (ds.drop (m + 1)))) := by
      rw [go]
      show (_ && _) = _
      rw [yc, Bool.true_and]
      rfl
    cases q1' with
    | tup hcx ncx dcx =>
    rename_i cx zs
    obtain rfl : zs = [.int (i : Int), .int (j : Int)] := by
      cases dcx with
      | cons h1 t1 =>
        cases h1
        cases t1 with
        | cons h2 t2 => cases h2; cases t2; rfl
    refine ⟨.ref cx, rfl, .ref D, rfl, D, _, rfl, DGet.t (k := [.inl (i : Int), .inl (j : Int)]) hD hcx, _, rfl, ite2 (fun z2 => ?_) (fun z2 => ?_)⟩
    · refine k _ _ ?_ (s1.trans sm)
      rw [pairs_in] at z2
      rw [go2, z2]
      rfl
    have ni : ((i : Int), (j : Int)) ∉ ps := fun y => z2 (by rw [pairs_in]; exact decide_eq_true y)
    rw [decide_eq_false ni] at go2
    refine ⟨.ref cx, rfl, cx, _, rfl, .inl (.inl hcx), rfl, _, _, rfl, _, _, rfl, rfl, ?_⟩
    show tSeq (tIfS (tNot (tB (tCB (rAll K) (tCons (tLc (iList K (tCall spWanted [] E0 (tCons (tVar 0) (tCons (tVar 6) (tCons (tVar 7) tNil))))) (gName 8) tYes teOne [8]) tNil)))) _ _) _ _ [some (.ref t), some (.ref c), some (.int (a : Int)), some (.int (b : Int)), some (.ref D), some (.ref cx), some (.int (i : Int)), some (.int (j : Int)), none] G
    refine all_in (sl := 8) (dl := 4) (d := D) (ps := ps) (ws := wantL xs ys i j) ?_ (fun v => rfl) (fun v => rfl) (fun v => rfl) hD (fun R hR => ⟨.ref t, rfl, .int (i : Int), rfl, .int (j : Int), rfl, t, a, b, i, j, xs, ys, rfl, (pk.same s1).same sm, by omega, by omega, fun l us' H' s' _ hl pr => hR l us' H' s' hl pr⟩) fun B2 G2 e2 s3 => ⟨B2, rfl, ite2 (fun z3 => ?_) (fun z3 => ?_)⟩
    · unfold wantL wantOf
      rw [List.length_append]
      split <;> split <;> simp
    · refine k _ _ ?_ (s1.trans (sm.trans s3))
      have : B2 = false := by simpa using z3
      rw [go2, ← e2, this]
      rfl
    · have yB : B2 = true := by simpa using z3
      have hD3 := s3 _ _ hD
      refine ⟨.ref D, rfl, .ref cx, rfl, D, _, rfl, DPut.t (k := [.inl (i : Int), .inl (j : Int)]) hD3 (s3 _ _ hcx) (by rw [List.length_map]; exact Nat.lt_of_lt_of_le (show ps.length < 2000 by omega) (by decide)), ?_⟩
      rw [pairs_put ni]
      refine ⟨fun b' o' e' => ?_, hm, ⟨ps ++ [((i : Int), (j : Int))], upd_same, by rw [List.length_append, List.length_singleton]; omega, ?_⟩, _, _, _, rfl⟩
      · rw [upd_ne (ne_of_none e' nD)]
        exact s3 _ _ (sm _ _ e')
      · rw [go2, ← e2, yB]
        rfl
  · rintro σ G ⟨sm, _, ⟨ps, hD, lps, go⟩, y5, y6, y7, rfl⟩
    refine k _ _ ?_ (s1.trans sm)
    rw [da.len, List.drop_length] at go
    rw [go]
    rfl
end
end C2

namespace C2
set_option Elab.async false
set_option linter.all false
set_option maxRecDepth 100000
set_option maxHeartbeats 1000000
open PySem PySem.Spec PyProof.Rows L2 HT
theorem same_none {G G' : Hp} {l : Addr} (s : Same G G') (n : G' l = none) : G l = none := by
  cases e : G l with
  | none => rfl
  | some o => rw [s _ _ e] at n; cases n
def rInt1 : List V → Hp → VK → Prop := fun xs H Q => (∃ i, xs = [V.int i] ∧ Q (V.int i) H) ∨ ∃ k, xs = [V.bl k] ∧ Q (V.int (if k = true then 1 else 0)) H
section
variable {P : Program} {w : World} {K : PySem.W.Frag} {mg : Str → Option Value} {base : Heap}
/-- [pair] * int(truth) -/
theorem piece_ok {tp tc : TE} {σ : L2.St} {G : Hp} {Q : VK} {x y : Int} {B : Bool} (hp : ∀ R : VK, (∀ c G', Same G G' → G' c = some (.tup [.int x, .int y]) → R (.ref c) G') → tp σ G R) (hc : ∀ (G1 : Hp) (R : VK), Same G G1 → R (.bl B) G1 → tc σ G1 R)
    (q : ∀ l us G', Same G G' → G' l = some (.lst us) → us.length ≤ 1 → Prs G' us (if B = true then [(x, y)] else []) → Q (.ref l) G') : tOp rRep (tLst (tCons tp tNil)) (tCB rInt1 (tCons tc tNil)) σ G Q := by
  refine hp _ fun c G1 s1 h1 => ⟨by show 1 ≤ sizeLine; decide, fun l nl => ?_⟩
  have s2 := same_upd (o := .lst [.ref c]) nl
  refine hc _ _ (s1.trans s2) (.inr ⟨B, rfl, l, _, _, rfl, rfl, upd_same, ?_, ?_, ?_, fun l3 n3 => ?_⟩)
  · split <;> decide
  · split <;> decide
  · show 1 * _ ≤ sizeLine
    split <;> decide
  · have s3 := same_upd (o := .lst (List.replicate (if B = true then (1 : Int) else 0).toNat [V.ref c]).flatten) n3
    refine q l3 _ _ (s1.trans (s2.trans s3)) upd_same ?_ ?_
    · cases B <;> simp
    · cases B with
      | true => exact .cons ⟨c, rfl, s3 _ _ (s2 _ _ h1)⟩ .nil
      | false => exact .nil
theorem cond_ok {tx ty : TE} {σ : L2.St} {G : Hp} {R : VK} {sl : Nat} {c n u v : Int} (hs : σ[sl]? = some (some (.int c))) (hx : ∀ R : VK, R (.int u) G → tx σ G R) (hy : ∀ R : VK, R (.int v) G → ty σ G R) (q : R (.bl (decide (c = n) && !decide (u = v))) G) : tAndV (tOp rEq (tVar sl) (tC (.int n))) (tOp rNe tx ty) σ G R := by
  refine ⟨.int c, hs, rfl, _, rfl, ?_⟩
  rw [decI]
  by_cases e : c = n
  · rw [decide_eq_true e] at q ⊢
    refine iteT (hx _ (hy _ ⟨rfl, ?_⟩))
    rw [decI]
    exact q
  · rw [decide_eq_false e] at q ⊢
    exact iteF q
/-- one list behind another -/
theorem join_ok {ta tb : TE} {σ : L2.St} {G : Hp} {Q : VK} {ps qs : List (Int × Int)} {n : Nat} (hn : n ≤ 100) (ha : ∀ R : VK, (∀ l us G', Same G G' → G' l = some (.lst us) → us.length ≤ n → Prs G' us ps → R (.ref l) G') → ta σ G R)
    (hb : ∀ (G1 : Hp) (R : VK), Same G G1 → (∀ l us G', Same G1 G' → G' l = some (.lst us) → us.length ≤ 1 → Prs G' us qs → R (.ref l) G') → tb σ G1 R)
    (q : ∀ l us G', Same G G' → G l = none → G' l = some (.lst us) → us.length ≤ n + 1 → Prs G' us (ps ++ qs) → Q (.ref l) G') : tOp rCat ta tb σ G Q := by
  refine ha _ fun l1 us1 G1 s1 h1 n1 p1 => hb G1 _ s1 fun l2 us2 G2 s2 h2 n2 p2 => ⟨l1, l2, us1, us2, rfl, rfl, s2 _ _ h1, h2, Nat.le_trans (show us1.length + us2.length ≤ 1000 by omega) (by decide), fun l3 n3 => ?_⟩
  have s3 := same_upd (o := .lst (us1 ++ us2)) n3
  exact q l3 _ _ (s1.trans (s2.trans s3)) (same_none (s1.trans s2) n3) upd_same (by rw [List.length_append]; omega) (((p1.same s2).same s3).app (p2.same s3))
abbrev NWn : List Str := ["_law_chosen", "_law_i", "_law_j", "_law_across", "_law_upward", "_law_found"]
theorem scWants : FnScope NWn ["_law_chosen", "_law_i", "_law_j"] (defScope sWants) := ⟨rfl, rfl, rfl, by decide +kernel, rfl, by decide +kernel, by decide +kernel⟩
theorem ok_wants {f fC : Addr} {fd fdC : FuncData} {k : Nat} (F : Fun K "_law_wants" "_law_wants" sWants f fd) (FC : Fun K "_law_comes" "_law_comes" sLComes fC fdC) (bC : Binds K fdC ["_law_chosen", "_law_i", "_law_j"] []) (gC : mg "_law_comes" = some (.ref fC)) (mint : mg "int" = none) : FnOk P w K mg base CX0 (k + 2) f fd ["_law_chosen", "_law_i", "_law_j"] spWanted := by
  have GC : FnOk P w K mg base CX0 (k + 1) fC fdC ["_law_chosen", "_law_i", "_law_j"] spComes := ok_lcomes FC
  refine F.ok scWants (fun vs H Q E h => ?_) (fun cdv A outer s H vs Q E hr h => ?_)
  · obtain ⟨t, a, b, i, j, xs, ys, rfl, _⟩ := h
    rfl
  obtain ⟨t, a, b, i, j, xs, ys, rfl, pk, hi, hj, q⟩ := h
  have nd := scWants.nd
  refine ⟨_, pss_cons (ps_asg (pe_call GC hr (by rfl) gC FC.kp bC .nil pass0 (pa_cons (pv 0) (pa_cons (pv 1) (pa_cons (pv 2) pa_nil)))) (pg_tup rfl (pgs_cons (pg_name (i := 3) nd rfl (.inl rfl)) (pgs_cons (pg_name (i := 4) nd rfl (.inl rfl)) pgs_nil))))
      (pss_cons (ps_set (i := 5) nd rfl (.inl rfl) (pe_op op_rep (pe_lst (pa_cons (pe_tup (pa_cons (pe_op op_sub (pv 1) pe_int) (pa_cons (pv 2) pa_nil))) pa_nil)) (pe_callTy call_int1 (by rfl) mint (by decide +kernel) (pa_cons (pe_and (pe_cmpR op_eq (pv 3) pe_int (nomark _)) (pe_one (pe_cmpR op_ne (pe_ix ix_tup (pe_ix ix_tup (pv 0) pe_int (fun _ _ => rfl)) (pv 2) (fun _ _ => rfl)) (pv 1) (nomark _)))) pa_nil))))
      (pss_cons (ps_set (i := 5) nd rfl (.inl rfl) (pe_op op_cat (pv 5) (pe_op op_rep (pe_lst (pa_cons (pe_tup (pa_cons (pe_op op_add (pv 1) pe_int) (pa_cons (pv 2) pa_nil))) pa_nil)) (pe_callTy call_int1 (by rfl) mint (by decide +kernel) (pa_cons (pe_and (pe_cmpR op_eq (pv 3) pe_int (nomark _)) (pe_one (pe_cmpR op_ne (pe_ix ix_tup (pe_ix ix_tup (pv 0) pe_int (fun _ _ => rfl)) (pv 2) (fun _ _ => rfl)) (pe_op op_add (pv 1) pe_int) (nomark _)))) pa_nil)))))
      (pss_cons (ps_set (i := 5) nd rfl (.inl rfl) (pe_op op_cat (pv 5) (pe_op op_rep (pe_lst (pa_cons (pe_tup (pa_cons (pv 1) (pa_cons (pe_op op_sub (pv 2) pe_int) pa_nil))) pa_nil)) (pe_callTy call_int1 (by rfl) mint (by decide +kernel) (pa_cons (pe_and (pe_cmpR op_eq (pv 4) pe_int (nomark _)) (pe_one (pe_cmpR op_ne (pe_ix ix_tup (pe_ix ix_tup (pv 0) pe_int (fun _ _ => rfl)) (pv 1) (fun _ _ => rfl)) (pv 2) (nomark _)))) pa_nil)))))
      (pss_one (ps_ret (pe_op op_cat (pv 5) (pe_op op_rep (pe_lst (pa_cons (pe_tup (pa_cons (pv 1) (pa_cons (pe_op op_add (pv 2) pe_int) pa_nil))) pa_nil)) (pe_callTy call_int1 (by rfl) mint (by decide +kernel) (pa_cons (pe_and (pe_cmpR op_eq (pv 4) pe_int (nomark _)) (pe_one (pe_cmpR op_ne (pe_ix ix_tup (pe_ix ix_tup (pv 0) pe_int (fun _ _ => rfl)) (pv 1) (fun _ _ => rfl)) (pe_op op_add (pv 2) pe_int) (nomark _)))) pa_nil))))))))), ?_⟩
  refine ⟨.ref t, rfl, .int (i : Int), rfl, .int (j : Int), rfl, t, a, b, i, j, xs, ys, rfl, pk, hi, hj, fun H1 T s1 nT hT => ?_⟩
  refine ⟨T, _, rfl, .inl (.inl hT), rfl, _, _, rfl, _, _, rfl, rfl, ?_⟩
  have hcr : crI xs i j = 0 ∨ crI xs i j = 2 := by
    unfold crI
    split
    · exact .inl rfl
    · exact .inr rfl
  have hcc : ccI ys i j = 1 ∨ ccI ys i j = 3 := by
    unfold ccI
    split
    · exact .inl rfl
    · exact .inr rfl
  have ax : ∀ {G : Hp} {R : VK} {σ : L2.St}, σ[0]? = some (some (.ref t)) → σ[2]? = some (some (.int (j : Int))) → Same H1 G → R (.int (xs.getD j 0)) G → tOp (rIxT K) (tOp (rIxT K) (tVar 0) (tC (.int 0))) (tVar 2) σ G R := fun h0 h2 sg hR => by
    obtain ⟨tx, ty, k1, k2, k3, l1, l2, u1, u2⟩ := (pk.same s1).same sg
    exact ⟨.ref t, h0, t, _, 0, .ref tx, rfl, rfl, .inl (.inl k1), rfl, .int (j : Int), h2, tx, _, _, _, rfl, rfl, .inl (.inl k2), atD (by omega), hR⟩
  have ay : ∀ {G : Hp} {R : VK} {σ : L2.St}, σ[0]? = some (some (.ref t)) → σ[1]? = some (some (.int (i : Int))) → Same H1 G → R (.int (ys.getD i 0)) G → tOp (rIxT K) (tOp (rIxT K) (tVar 0) (tC (.int 1))) (tVar 1) σ G R := fun h0 h2 sg hR => by
    obtain ⟨tx, ty, k1, k2, k3, l1, l2, u1, u2⟩ := (pk.same s1).same sg
    exact ⟨.ref t, h0, t, _, 1, .ref ty, rfl, rfl, .inl (.inl k1), rfl, .int (i : Int), h2, ty, _, _, _, rfl, rfl, .inl (.inl k3), atD (by omega), hR⟩
  show tSeq (tAsg (tOp rRep (tLst (tCons (tTup (tCons (tOp (rI0 fun i j => V.int (i - j)) (tVar 1) (tC (V.int 1))) (tCons (tVar 2) tNil))) tNil)) (tCB rInt1 (tCons (tAndV (tOp rEq (tVar 3) (tC (V.int 0))) (tOp rNe (tOp (rIxT K) (tOp (rIxT K) (tVar 0) (tC (V.int 0))) (tVar 2)) (tVar 1))) tNil))) (gName 5)) _ _ [some (.ref t), some (.int (i : Int)), some (.int (j : Int)), some (.int (crI xs i j)), some (.int (ccI ys i j)), none] H1
  refine seqAsg (piece_ok (x := (i : Int) - 1) (y := (j : Int)) (B := decide (crI xs i j = 0) && !decide (xs.getD j 0 = (i : Int))) (fun R hR => ⟨.int (i : Int), rfl, (i : Int), 1, rfl, rfl, .int (j : Int), rfl, by show 2 ≤ sizeLine; decide, fun c nc => hR c _ (same_upd nc) upd_same⟩) (fun G1 R sg hR => cond_ok rfl (fun R h => ax rfl rfl sg h) (fun R h => ⟨.int (i : Int), rfl, h⟩) hR) fun l1 us1 G1 g1 h1 n1 p1 => ?_)
  show tSeq (tAsg (tOp rCat (tVar 5) (tOp rRep (tLst (tCons (tTup (tCons (tOp (rI0 fun i j => V.int (i + j)) (tVar 1) (tC (V.int 1))) (tCons (tVar 2) tNil))) tNil)) (tCB rInt1 (tCons (tAndV (tOp rEq (tVar 3) (tC (V.int 2))) (tOp rNe (tOp (rIxT K) (tOp (rIxT K) (tVar 0) (tC (V.int 0))) (tVar 2)) (tOp (rI0 fun i j => V.int (i + j)) (tVar 1) (tC (V.int 1))))) tNil)))) (gName 5)) _ _ [some (.ref t), some (.int (i : Int)), some (.int (j : Int)), some (.int (crI xs i j)), some (.int (ccI ys i j)), some (.ref l1)] G1
  refine seqAsg (join_ok (n := 1) (by decide) (fun R hR => ⟨.ref l1, rfl, hR l1 us1 G1 (Same.refl _) h1 n1 p1⟩) (fun G2 R sg hR => piece_ok (x := (i : Int) + 1) (y := (j : Int)) (B := decide (crI xs i j = 2) && !decide (xs.getD j 0 = (i : Int) + 1)) (fun R hR => ⟨.int (i : Int), rfl, (i : Int), 1, rfl, rfl, .int (j : Int), rfl, by show 2 ≤ sizeLine; decide, fun c nc => hR c _ (same_upd nc) upd_same⟩) (fun G3 R sg3 hR => cond_ok rfl (fun R h => ax rfl rfl (g1.trans (sg.trans sg3)) h) (fun R h => ⟨.int (i : Int), rfl, (i : Int), 1, rfl, rfl, h⟩) hR) hR) fun l2 us2 G2 g2 _ h2 n2 p2 => ?_)
  have g12 := g1.trans g2
  show tSeq (tAsg (tOp rCat (tVar 5) (tOp rRep (tLst (tCons (tTup (tCons (tVar 1) (tCons (tOp (rI0 fun i j => V.int (i - j)) (tVar 2) (tC (V.int 1))) tNil))) tNil)) (tCB rInt1 (tCons (tAndV (tOp rEq (tVar 4) (tC (V.int 1))) (tOp rNe (tOp (rIxT K) (tOp (rIxT K) (tVar 0) (tC (V.int 1))) (tVar 1)) (tVar 2))) tNil)))) (gName 5)) _ _ [some (.ref t), some (.int (i : Int)), some (.int (j : Int)), some (.int (crI xs i j)), some (.int (ccI ys i j)), some (.ref l2)] G2
  refine seqAsg (join_ok (n := 2) (by decide) (fun R hR => ⟨.ref l2, rfl, hR l2 us2 G2 (Same.refl _) h2 n2 p2⟩) (fun G3 R sg hR => piece_ok (x := (i : Int)) (y := (j : Int) - 1) (B := decide (ccI ys i j = 1) && !decide (ys.getD i 0 = (j : Int))) (fun R hR => ⟨.int (i : Int), rfl, .int (j : Int), rfl, (j : Int), 1, rfl, rfl, by show 2 ≤ sizeLine; decide, fun c nc => hR c _ (same_upd nc) upd_same⟩) (fun G4 R sg4 hR => cond_ok rfl (fun R h => ay rfl rfl (g12.trans (sg.trans sg4)) h) (fun R h => ⟨.int (j : Int), rfl, h⟩) hR) hR) fun l3 us3 G3 g3 _ h3 n3 p3 => ?_)
  have g13 := g12.trans g3
  show tRet (tOp rCat (tVar 5) (tOp rRep (tLst (tCons (tTup (tCons (tVar 1) (tCons (tOp (rI0 fun i j => V.int (i + j)) (tVar 2) (tC (V.int 1))) tNil))) tNil)) (tCB rInt1 (tCons (tAndV (tOp rEq (tVar 4) (tC (V.int 3))) (tOp rNe (tOp (rIxT K) (tOp (rIxT K) (tVar 0) (tC (V.int 1))) (tVar 1)) (tOp (rI0 fun i j => V.int (i + j)) (tVar 2) (tC (V.int 1))))) tNil)))) _ [some (.ref t), some (.int (i : Int)), some (.int (j : Int)), some (.int (crI xs i j)), some (.int (ccI ys i j)), some (.ref l3)] G3
  refine join_ok (n := 3) (by decide) (fun R hR => ⟨.ref l3, rfl, hR l3 us3 G3 (Same.refl _) h3 n3 p3⟩) (fun G4 R sg hR => piece_ok (x := (i : Int)) (y := (j : Int) + 1) (B := decide (ccI ys i j = 3) && !decide (ys.getD i 0 = (j : Int) + 1)) (fun R hR => ⟨.int (i : Int), rfl, .int (j : Int), rfl, (j : Int), 1, rfl, rfl, by show 2 ≤ sizeLine; decide, fun c nc => hR c _ (same_upd nc) upd_same⟩) (fun G5 R sg5 hR => cond_ok rfl (fun R h => ay rfl rfl (g13.trans (sg.trans sg5)) h) (fun R h => ⟨.int (j : Int), rfl, (j : Int), 1, rfl, rfl, h⟩) hR) hR) fun l4 us4 G4 g4 nl4 h4 n4 p4 => ?_
  refine q l4 us4 G4 (s1.trans (g13.trans g4)) (same_none (s1.trans g13) nl4) h4 ?_
  have e : wantL xs ys i j = ((((if (decide (crI xs i j = 0) && !decide (xs.getD j 0 = (i : Int))) = true then [((i : Int) - 1, (j : Int))] else []) ++ (if (decide (crI xs i j = 2) && !decide (xs.getD j 0 = (i : Int) + 1)) = true then [((i : Int) + 1, (j : Int))] else [])) ++ (if (decide (ccI ys i j = 1) && !decide (ys.getD i 0 = (j : Int))) = true then [((i : Int), (j : Int) - 1)] else [])) ++ (if (decide (ccI ys i j = 3) && !decide (ys.getD i 0 = (j : Int) + 1)) = true then [((i : Int), (j : Int) + 1)] else [])) := by
    unfold wantL wantOf
    rcases hcr with z1 | z1 <;> rcases hcc with z2 | z2 <;> rw [z1, z2] <;> simp [hasL, byL]
  rw [e]
  exact p4
end
end C2

namespace C2
set_option Elab.async false
set_option linter.all false
set_option maxRecDepth 100000
set_option maxHeartbeats 1000000
open PySem PySem.Spec PyProof.Rows L2 HT
def isInD : PyData → Bool
  | .int _ => true
  | _ => false
theorem in_eq {E : Addr → Prop} {H : Hp} {v : V} {d : PyData} (h : Dq E H v d) : isIn v = isInD d := by
  cases h <;> rfl
theorem isInD_int {d : PyData} (h : isInD d = true) : ∃ i, d = .int i := by
  cases d with
  | int i => exact ⟨i, rfl⟩
  | _ => cases h
theorem btD_noInt {hi : Int} {d : PyData} (h : isInD d = false) : btD hi d = false := by
  cases d with
  | int i => cases h
  | _ => rfl
/-- 0 <= u < v -/
theorem chain_ok {tb tc : TE} {σ : L2.St} {G : Hp} {Q : VK} {u v : Int} (hb : ∀ R : VK, R (.int u) G → tb σ G R) (hc : ∀ R : VK, R (.int v) G → tc σ G R) (q : ∀ B : Bool, B = decide (0 ≤ u ∧ u < v) → Q (.bl B) G) : tChain (rI0 fun i j => V.bl (decide (i ≤ j))) (rI0 fun i j => V.bl (decide (i < j))) (tC (V.int 0)) tb tc σ G Q := by
  refine hb _ ⟨0, u, rfl, rfl, _, rfl, ite2 (fun z => ?_) (fun z => ?_)⟩
  · refine hc _ ⟨u, v, rfl, rfl, q _ ?_⟩
    have := of_decide_eq_true z
    by_cases y : u < v <;> simp [y, this]
  · have : ¬ 0 ≤ u := fun y => z (decide_eq_true y)
    exact q _ (by simp [this])
section
variable {P : Program} {w : World} {K : PySem.W.Frag} {mg : Str → Option Value} {base : Heap}
abbrev NIo : List Str := ["_law_chosen", "_law_what", "_law_a", "_law_b", "_law_met", "_law_one", "_law_part", "_law_other"]
theorem scIsOrd : FnScope NIo ["_law_chosen", "_law_what"] (defScope sIsOrd) := ⟨rfl, rfl, rfl, by decide +kernel, rfl, by decide +kernel, by decide +kernel⟩
def tePa (K : PySem.W.Frag) : TE := tAndV (tCB (rIsi K) (tCons (tVar 6) (tCons (tC (.ty "int")) tNil))) (tNotV (tCB (rIsi K) (tCons (tVar 6) (tCons (tC (.ty "bool")) tNil))))
def teOt : TE := tDIn (tVar 7) (tVar 4)
theorem ok_isord {f fA fC : Addr} {fd fdA fdC : FuncData} {k : Nat} (F : Fun K "_law_is_order" "_law_is_order" sIsOrd f fd) (FA : Fun K "_law_wants" "_law_wants" sWants fA fdA) (FC : Fun K "_law_comes" "_law_comes" sLComes fC fdC) (bA : Binds K fdA ["_law_chosen", "_law_i", "_law_j"] []) (bC : Binds K fdC ["_law_chosen", "_law_i", "_law_j"] []) (gA : mg "_law_wants" = some (.ref fA)) (gC : mg "_law_comes" = some (.ref fC))
    (mi : mg "isinstance" = none) (mint : mg "int" = none) (mbool : mg "bool" = none) (mtup : mg "tuple" = none) (ml : mg "len" = none) (mall : mg "all" = none) : FnOk P w K mg base CX0 (k + 3) f fd ["_law_chosen", "_law_what"] spShows := by
  have GA : FnOk P w K mg base CX0 (k + 2) fA fdA ["_law_chosen", "_law_i", "_law_j"] spWanted := ok_wants FA FC bC gC mint
  refine F.ok scIsOrd (fun vs H Q E h => ?_) (fun cdv A outer s H vs Q E hr h => ?_)
  · obtain ⟨t, N, v, d, a, b, xs, ys, rfl, _⟩ := h
    rfl
  obtain ⟨t, N, v, d, a, b, xs, ys, rfl, pk, a40, b40, qv, k⟩ := h
  have nd := scIsOrd.nd
  refine ⟨_, pss_cons (ps_par (i := 2) (j := 3) rfl nd rfl rfl (by decide) rfl rfl (pa_cons (pe_callB call_len_seq (by rfl) ml PySem.boot_len (pa_cons (pe_ix ix_tup (pv 0) pe_int (fun _ _ => rfl)) pa_nil)) (pa_cons (pe_callB call_len_seq (by rfl) ml PySem.boot_len (pa_cons (pe_ix ix_tup (pv 0) pe_int (fun _ _ => rfl)) pa_nil)) pa_nil)) rfl)
      (pss_cons (ps_if (PW.pt (pw_or (pt_not (pt_val (pe_callB call_isi (by rfl) mi (by decide +kernel) (pa_cons (pv 1) (pa_cons (pe_bltn (v := .ty "tuple") (by rfl) mtup (by decide +kernel) rfl) pa_nil))))) (pw_or1 (pt_cmpR op_ne (pe_callB call_len_seq (by rfl) ml PySem.boot_len (pa_cons (pv 1) pa_nil)) (pe_op op_mul (pv 2) (pv 3)) (nomark _))))) (pss_one (ps_ret pe_bl)) pss_nil)
      (pss_cons (ps_set (i := 4) nd rfl (.inr rfl) pe_dnewT)
      (pss_cons (ps_for PassesOwn.never rfl (pi_tup (pv 1)) (pg_name (i := 5) nd rfl (.inl rfl)) (pss_cons (ps_if (PW.pt (pw_or (pt_not (pt_val (pe_callB call_isi (by rfl) mi (by decide +kernel) (pa_cons (pv 5) (pa_cons (pe_bltn (v := .ty "tuple") (by rfl) mtup (by decide +kernel) rfl) pa_nil))))) (pw_or1 (pt_cmpR op_ne (pe_callB call_len_seq (by rfl) ml PySem.boot_len (pa_cons (pv 5) pa_nil)) pe_int (nomark _))))) (pss_one (ps_ret pe_bl)) pss_nil)
      (pss_cons (ps_if (pt_not (pt_val (pe_callB (cr_all rfl) (by rfl) mall (by decide +kernel) (pa_cons (pe_lc (own := [("_law_part", 6)]) (g := gName 6) (tt := tYes) (te := tePa K) rfl nd (pi_tup (pv 5)) (blkOk_by (own := [("_law_part", 6)]) (N := NIo) (sc := defScope sIsOrd) (by decide +kernel)) (fun _ _ _ _ _ => pg_name (i := 6) nd rfl (.inl rfl)) (fun _ _ _ _ _ => pts_nil) (fun _ _ _ _ _ => (pe_and (pe_callB call_isi (by rfl) mi (by decide +kernel) (pa_cons (pv 6) (pa_cons (pe_bltn (v := .ty "int") (by rfl) mint (by decide +kernel) rfl) pa_nil))) (pe_one (pe_not (pe_callB call_isi (by rfl) mi (by decide +kernel) (pa_cons (pv 6) (pa_cons (pe_bltn (v := .ty "bool") (by rfl) mbool (by decide +kernel) rfl) pa_nil)))))))) pa_nil)))) (pss_one (ps_ret pe_bl)) pss_nil)
      (pss_cons (ps_if (PW.pt (pw_or (pt_not (pt_chain op_le op_lt pe_int (pe_ix ix_tup (pv 5) pe_int (fun _ _ => rfl)) (pv 2))) (pw_or (pt_not (pt_chain op_le op_lt pe_int (pe_ix ix_tup (pv 5) pe_int (fun _ _ => rfl)) (pv 3))) (pw_or1 (pt_cmp (pc_din (Nat.lt_of_le_of_lt (Nat.add_le_add_left (by decide) _) hr.units) (pv 5) (pv 4))))))) (pss_one (ps_ret pe_bl)) pss_nil)
      (pss_cons (ps_if (pt_not (pt_val (pe_callB (cr_all rfl) (by rfl) mall (by decide +kernel) (pa_cons (pe_lc (own := [("_law_other", 7)]) (g := gName 7) (tt := tYes) (te := teOt) rfl nd (pi_list (pe_call GA (hr.mono (by omega)) (by rfl) gA FA.kp bA .nil pass0 (pa_cons (pv 0) (pa_cons (pe_ix ix_tup (pv 5) pe_int (fun _ _ => rfl)) (pa_cons (pe_ix ix_tup (pv 5) pe_int (fun _ _ => rfl)) pa_nil))))) (blkOk_by (own := [("_law_other", 7)]) (N := NIo) (sc := defScope sIsOrd) (by decide +kernel)) (fun _ _ _ _ _ => pg_name (i := 7) nd rfl (.inl rfl)) (fun _ _ _ _ _ => pts_nil) (fun _ _ _ _ _ => (pe_cmp (pc_din (Nat.lt_of_le_of_lt (Nat.add_le_add_left (by decide) _) hr.units) (pv 7) (pv 4))))) pa_nil)))) (pss_one (ps_ret pe_bl)) pss_nil)
      (pss_one (ps_dput (Nat.lt_of_le_of_lt (Nat.add_le_add_left (by decide) _) hr.units) (pv 4) (pv 5) pe_bl (by rfl))))))))
      (pss_one (ps_ret pe_bl))))), ?_⟩
  obtain ⟨tx, ty, k1, k2, k3, l1, l2, u1, u2⟩ := id pk
  refine ⟨.ref t, rfl, t, _, 1, .ref ty, rfl, rfl, .inl (.inl k1), rfl, ty, _, rfl, .inr (.inl (.inl k3)), .ref t, rfl, t, _, 0, .ref tx, rfl, rfl, .inl (.inl k1), rfl, tx, _, rfl, .inr (.inl (.inl k2)), _, _, rfl, ?_⟩
  rw [List.length_map, List.length_map, l1, l2]
  obtain ⟨o, th, yes, no⟩ := qv.thg
  obtain ⟨n, tyv, _, _, kk3, _⟩ := th.kit (K := K)
  refine ⟨v, rfl, v, .ty "tuple", _, _, _, rfl, .ty "tuple", tyv, kit_ty kk3, o.isSome, rfl, ite2 (fun e => ?_) (fun e => ?_)⟩
  · refine iteT (k _ _ ?_ (Same.refl _))
    cases o with
    | none => exact (ordD_no (no rfl)).symm
    | some us => cases e
  cases o with
  | none => exact absurd rfl e
  | some us =>
  obtain ⟨ds, rfl, da⟩ := yes us rfl
  obtain ⟨c, rfl, ec⟩ := th.some_tup
  refine ⟨.ref c, rfl, c, us, rfl, .inr (.inl (.inl ec)), .int (a : Int), rfl, .int (b : Int), rfl, (a : Int), (b : Int), rfl, rfl, .inl ⟨by omega, by omega⟩, rfl, _, rfl, ite2 (fun z => ?_) (fun z => ?_)⟩
  · refine k _ _ ?_ (Same.refl _)
    have ne : ¬ ((us.length : Nat) : Int) = (a : Int) * (b : Int) := fun y => by
      rw [y] at z
      simp at z
    show _ = (decide _ && _)
    rw [← da.len, decide_eq_false ne, Bool.false_and]
  have el : ((us.length : Nat) : Int) = (a : Int) * (b : Int) := by
    by_cases y : ((us.length : Nat) : Int) = (a : Int) * (b : Int)
    · exact y
    · exact absurd (by simp [y]) z
  have oE : ordD xs ys (a : Int) (b : Int) (.tuple ds) = ordGo xs ys (a : Int) (b : Int) [] ds := by
    show (decide _ && _) = _
    rw [← da.len, decide_eq_true el, Bool.true_and]
  rw [oE] at k
  intro D nD
  have s2 := same_upd (o := .dT []) nD
  refine ⟨.ref c, rfl, c, rfl, ⟨_, .inl (.inl (s2 _ _ ec))⟩, ?_⟩
  refine for_tup (xs := us) (fun m σ G => Same H G ∧ m ≤ us.length ∧ (∃ ps : List (Int × Int), G D = some (.dT (ps.map kOf)) ∧ ps.length = m ∧ ordGo xs ys (a : Int) (b : Int) [] ds = ordGo xs ys (a : Int) (b : Int) ps (ds.drop m)) ∧ ∃ y5, σ = [some (.ref t), some (.ref c), some (.int (a : Int)), some (.int (b : Int)), some (.ref D), y5, none, none])
    ⟨s2, Nat.zero_le _, ⟨[], upd_same, rfl, rfl⟩, _, rfl⟩ (fun m σ G _ h => .inl (.inl (h.1 _ _ ec))) ?_ ?_
  · rintro m x σ G hx ⟨sm, _, ⟨ps, hD, lps, go⟩, y5, rfl⟩
    have hm : m < us.length := (List.getElem?_eq_some_iff.mp hx).1
    have u1600 : us.length ≤ 1600 := by
      have : (a : Int) * (b : Int) ≤ 40 * 40 := Int.mul_le_mul (by omega) (by omega) (by omega) (by omega)
      omega
    obtain ⟨d1, hd1, q1⟩ := da.at_ hx
    have q1' := q1.fr (FrX.same sm)
    rw [drop_at hd1] at go
    have bad : ∀ {G' : Hp}, crB (a : Int) (b : Int) d1 = false → Same G G' → Q (.bl false) G' := fun z sg => k _ _ (by
      rw [go]
      show _ = (_ && _)
      rw [z, Bool.false_and]) (sm.trans sg)
    obtain ⟨o1, th1, yes1, no1⟩ := q1'.thg
    obtain ⟨n1, ty1, _, _, k31, _⟩ := th1.kit (K := K)
    refine ⟨x, rfl, x, .ty "tuple", _, _, _, rfl, .ty "tuple", ty1, kit_ty k31, o1.isSome, rfl, ite2 (fun e1 => ?_) (fun e1 => ?_)⟩
    · refine iteT (bad (crB_no fun x y z => ?_) (Same.refl _))
      cases o1 with
      | none => exact no1 rfl _ z
      | some xs => cases e1
    cases o1 with
    | none => exact absurd rfl e1
    | some ws =>
    obtain ⟨es, rfl, db⟩ := yes1 ws rfl
    obtain ⟨cx, rfl, ecx⟩ := th1.some_tup
    have lw := db.len
    refine ⟨.ref cx, rfl, cx, ws, rfl, .inr (.inl (.inl ecx)), rfl, _, rfl, ite2 (fun z1 => ?_) (fun z1 => ?_)⟩
    · refine bad (crB_no fun x y w => ?_) (Same.refl _)
      cases w
      have : ws.length = 2 := lw
      rw [this] at z1
      cases z1
    have el1 : ws.length = 2 := by
      by_cases y : ws.length = 2
      · exact y
      · refine absurd ?_ z1
        have : ¬ ((ws.length : Nat) : Int) = 2 := by omega
        simp [this]
    match ws, es, db, el1, lw with
    | [u, v], [dx, dy], .cons hu (.cons hv .nil), _, _ =>
    show tSeq (tIfS (tNot (tB (tCB (rAll K) (tCons (tLc (iTup K (tVar 5)) (gName 6) tYes (tePa K) [6]) tNil)))) _ _) _ _ [some (.ref t), some (.ref c), some (.int (a : Int)), some (.int (b : Int)), some (.ref D), some (.ref cx), none, none] G
    refine all_tupD (s := 6) (i := 5) (f := isInD) rfl ecx (.cons hu (.cons hv .nil)) (fun v => rfl) (fun y dy' G1 Q' hy s1 kk => ?_) (by show 2 < sizeLine; decide) fun B1 G1 eB g1 => ⟨B1, rfl, ite2 (fun z2 => ?_) (fun z2 => ?_)⟩
    · obtain ⟨oy, tyy, _⟩ := hy.thg
      obtain ⟨mm, ty2, kk1, kk2, _, _⟩ := tyy.kit (K := K)
      refine ⟨y, rfl, y, .ty "int", _, _, _, rfl, .ty "int", ty2, kit_ty kk1, _, rfl, ite2 (fun e1 => ?_) (fun e1 => ?_)⟩
      · refine ⟨y, rfl, y, .ty "bool", _, _, _, rfl, .ty "bool", ty2, kit_ty kk2, _, rfl, kk _ _ ?_ (Same.refl _)⟩
        rw [← in_eq hy]
        exact isIB_not e1
      · refine kk _ _ ?_ (Same.refl _)
        rw [← in_eq hy]
        exact (isIB_no e1).symm
    · refine bad ?_ g1
      have hB : B1 = false := by simpa using z2
      rw [hB] at eB
      show (_ && _) = false
      cases ix : isInD dx with
      | false => rw [btD_noInt ix, Bool.false_and]
      | true =>
        cases iy : isInD dy with
        | false => rw [btD_noInt iy, Bool.and_false]
        | true =>
          have : [dx, dy].all isInD = true := by simp [ix, iy]
          rw [this] at eB
          cases eB
    have hB : B1 = true := by simpa using z2
    rw [hB] at eB
    have both := List.all_eq_true.mp eB.symm
    obtain ⟨i0, rfl⟩ := isInD_int (both dx (by simp))
    obtain ⟨j0, rfl⟩ := isInD_int (both dy (by simp))
    cases hu
    cases hv
    have ecx1 := g1 _ _ ecx
    have ix0 : ∀ {σ : L2.St} {R : VK} {G2 : Hp}, σ[5]? = some (some (.ref cx)) → Same G1 G2 → R (.int i0) G2 → tOp (rIxT K) (tVar 5) (tC (V.int 0)) σ G2 R := fun h5 sg hR => ⟨.ref cx, h5, cx, _, 0, .int i0, rfl, rfl, .inl (.inl (sg _ _ ecx1)), rfl, hR⟩
    have ix1 : ∀ {σ : L2.St} {R : VK} {G2 : Hp}, σ[5]? = some (some (.ref cx)) → Same G1 G2 → R (.int j0) G2 → tOp (rIxT K) (tVar 5) (tC (V.int 1)) σ G2 R := fun h5 sg hR => ⟨.ref cx, h5, cx, _, 1, .int j0, rfl, rfl, .inl (.inl (sg _ _ ecx1)), rfl, hR⟩
    show tSeq (tIfS (tOr (tNot (tTest (tChain (rI0 fun i j => V.bl (decide (i ≤ j))) (rI0 fun i j => V.bl (decide (i < j))) (tC (V.int 0)) (tOp (rIxT K) (tVar 5) (tC (V.int 0))) (tVar 2)))) (tOr (tNot (tTest (tChain (rI0 fun i j => V.bl (decide (i ≤ j))) (rI0 fun i j => V.bl (decide (i < j))) (tC (V.int 0)) (tOp (rIxT K) (tVar 5) (tC (V.int 1))) (tVar 3)))) (tB (tDIn (tVar 5) (tVar 4))))) _ _) _ _ [some (.ref t), some (.ref c), some (.int (a : Int)), some (.int (b : Int)), some (.ref D), some (.ref cx), none, none] G1
    have crE : crB (a : Int) (b : Int) (.tuple [.int i0, .int j0]) = (decide (0 ≤ i0 ∧ i0 ≤ (a : Int) - 1) && decide (0 ≤ j0 ∧ j0 ≤ (b : Int) - 1)) := rfl
    refine chain_ok (fun R h => ix0 rfl (Same.refl _) h) (fun R h => ⟨.int (a : Int), rfl, h⟩) fun B2 e2 => ⟨B2, rfl, ite2 (fun z3 => ?_) (fun z3 => ?_)⟩
    · refine iteT (bad ?_ g1)
      have : B2 = false := by simpa using z3
      rw [this] at e2
      have n0 : ¬ (0 ≤ i0 ∧ i0 < (a : Int)) := of_decide_eq_false e2.symm
      rw [crE, decide_eq_false (by omega), Bool.false_and]
    have yi : 0 ≤ i0 ∧ i0 < (a : Int) := by
      have : B2 = true := by simpa using z3
      rw [this] at e2
      exact of_decide_eq_true e2.symm
    refine chain_ok (fun R h => ix1 rfl (Same.refl _) h) (fun R h => ⟨.int (b : Int), rfl, h⟩) fun B3 e3 => ⟨B3, rfl, ite2 (fun z4 => ?_) (fun z4 => ?_)⟩
    · refine iteT (bad ?_ g1)
      have : B3 = false := by simpa using z4
      rw [this] at e3
      have n0 : ¬ (0 ≤ j0 ∧ j0 < (b : Int)) := of_decide_eq_false e3.symm
      rw [crE, decide_eq_false (show ¬ (0 ≤ j0 ∧ j0 ≤ (b : Int) - 1) by omega), Bool.and_false]
    have yj : 0 ≤ j0 ∧ j0 < (b : Int) := by
      have : B3 = true := by simpa using z4
      rw [this] at e3
      exact of_decide_eq_true e3.symm
    obtain ⟨i, rfl⟩ : ∃ i : Nat, i0 = (i : Int) := ⟨i0.toNat, by omega⟩
    obtain ⟨j, rfl⟩ : ∃ j : Nat, j0 = (j : Int) := ⟨j0.toNat, by omega⟩
    have yc : crB (a : Int) (b : Int) (.tuple [.int (i : Int), .int (j : Int)]) = true := by
      rw [crE, decide_eq_true (by omega), decide_eq_true (by omega)]
      rfl
    have go2 : ordGo xs ys (a : Int) (b : Int) [] ds = (!decide (((i : Int), (j : Int)) ∈ ps) && ((wantL xs ys i j).all (fun p => decide (p ∈ ps)) && ordGo xs ys (a : Int) (b : Int) (ps ++ [((i : Int), (j : Int))]) (ds.drop (m + 1)))) := by
      rw [go]
      show (_ && _) = _
      rw [yc, Bool.true_and]
      rfl
    have hD1 := g1 _ _ hD
    refine ⟨.ref cx, rfl, .ref D, rfl, D, _, rfl, DGet.t (k := [.inl (i : Int), .inl (j : Int)]) hD1 ecx1, _, rfl, ite2 (fun z5 => ?_) (fun z5 => ?_)⟩
    · refine k _ _ ?_ (sm.trans g1)
      rw [pairs_in] at z5
      rw [go2, z5]
      rfl
    have ni : ((i : Int), (j : Int)) ∉ ps := fun y => z5 (by rw [pairs_in]; exact decide_eq_true y)
    rw [decide_eq_false ni] at go2
    show tSeq (tIfS (tNot (tB (tCB (rAll K) (tCons (tLc (iList K (tCall spWanted [] E0 (tCons (tVar 0) (tCons (tOp (rIxT K) (tVar 5) (tC (V.int 0))) (tCons (tOp (rIxT K) (tVar 5) (tC (V.int 1))) tNil))))) (gName 7) tYes teOt [7]) tNil)))) _ _) _ _ [some (.ref t), some (.ref c), some (.int (a : Int)), some (.int (b : Int)), some (.ref D), some (.ref cx), none, none] G1
    refine all_in (sl := 7) (dl := 4) (d := D) (ps := ps) (ws := wantL xs ys i j) ?_ (fun v => rfl) (fun v => rfl) (fun v => rfl) hD1 (fun R hR => ⟨.ref t, rfl, .ref cx, rfl, cx, _, 0, .int (i : Int), rfl, rfl, .inl (.inl ecx1), rfl, .ref cx, rfl, cx, _, 1, .int (j : Int), rfl, rfl, .inl (.inl ecx1), rfl, t, a, b, i, j, xs, ys, rfl, (pk.same sm).same g1, by omega, by omega, fun l us' H' s' _ hl pr => hR l us' H' s' hl pr⟩) fun B4 G2 e4 s3 => ⟨B4, rfl, ite2 (fun z6 => ?_) (fun z6 => ?_)⟩
    · unfold wantL wantOf
      rw [List.length_append]
      split <;> split <;> simp
    · refine k _ _ ?_ (sm.trans (g1.trans s3))
      have : B4 = false := by simpa using z6
      rw [go2, ← e4, this]
      rfl
    · have yB : B4 = true := by simpa using z6
      have hD3 := s3 _ _ hD1
      refine ⟨.ref D, rfl, .ref cx, rfl, D, _, rfl, DPut.t (k := [.inl (i : Int), .inl (j : Int)]) hD3 (s3 _ _ ecx1) (by rw [List.length_map]; exact Nat.lt_of_lt_of_le (show ps.length < 2000 by omega) (by decide)), ?_⟩
      rw [pairs_put ni]
      refine ⟨fun b' o' e' => ?_, hm, ⟨ps ++ [((i : Int), (j : Int))], upd_same, by rw [List.length_append, List.length_singleton]; omega, ?_⟩, _, rfl⟩
      · rw [upd_ne (ne_of_none e' nD)]
        exact s3 _ _ (g1 _ _ (sm _ _ e'))
      · rw [go2, ← e4, yB]
        rfl
  · rintro σ G ⟨sm, _, ⟨ps, hD, lps, go⟩, y5, rfl⟩
    refine k _ _ ?_ sm
    rw [da.len, List.drop_length] at go
    rw [go]
    rfl
end
end C2

namespace C2
set_option Elab.async false
set_option linter.all false
set_option maxRecDepth 100000
set_option maxHeartbeats 1000000
open PySem PySem.Spec PyProof.Rows L2 HT
def dP (p : Int × Int) : PyData := .tuple [.int p.1, .int p.2]
theorem PrAt.dq {E : Addr → Prop} {G : Hp} {v : V} {p : Int × Int} (h : PrAt G v p) (n : ∀ c xs, G c = some (.tup xs) → ¬ E c) : Dq E G v (dP p) := by
  obtain ⟨c, rfl, hc⟩ := h
  exact .tup hc (n _ _ hc) (.cons (.int _) (.cons (.int _) .nil))
theorem Prs.dq {E : Addr → Prop} {G : Hp} (n : ∀ c xs, G c = some (.tup xs) → ¬ E c) : ∀ {vs : List V} {ps : List (Int × Int)}, Prs G vs ps → DqAll E G vs (ps.map dP)
  | _, _, .nil => .nil
  | _, _, .cons h t => .cons (h.dq n) (Prs.dq n t)
theorem dP_plain (p : Int × Int) : (dP p).plain = true := by simp [dP, PyData.plain, PyData.plainAll]
theorem dP_depth (p : Int × Int) : (dP p).depth = 1 := by simp [dP, PyData.depth, PyData.depthAll]
theorem dP_lay (p : Int × Int) : (dP p).canLay0 = true := by simp [dP, PyData.canLay0, PyData.canLayAll0]
theorem dPs_plain : ∀ ps : List (Int × Int), PyData.plainAll (ps.map dP) = true
  | [] => by simp [PyData.plainAll]
  | p :: ps => by rw [List.map_cons, PyData.plainAll, dP_plain, dPs_plain ps]; rfl
theorem dPs_lay : ∀ ps : List (Int × Int), PyData.canLayAll0 (ps.map dP) = true
  | [] => by simp [PyData.canLayAll0]
  | p :: ps => by rw [List.map_cons, PyData.canLayAll0, dP_lay, dPs_lay ps]; rfl
theorem dPs_depth : ∀ ps : List (Int × Int), PyData.depthAll (ps.map dP) ≤ 1
  | [] => by simp [PyData.depthAll]
  | p :: ps => by
    have := dPs_depth ps
    rw [List.map_cons, PyData.depthAll, dP_depth]
    omega
theorem dP_same (p : Int × Int) : PyData.eqv (dP p) (dP p) = true := by simp [dP, PyData.eqv, PyData.eqvAll]
section
variable {X : Cx}
/-- l.remove(pair) -/
def rRemP : V → List V → Hp → VK → Prop := fun x xs H Q => ∃ (l : Addr) (us : List V) (ps : List (Int × Int)) (y : V) (p : Int × Int), x = .ref l ∧ xs = [y] ∧ H l = some (.lst us) ∧ Prs H us ps ∧ PrAt H y p ∧ p ∈ ps ∧ ∀ j, j < us.length → Q .non (upd H l (.lst (us.eraseIdx j)))
theorem mt_removeP (room : X.A.units + 64 < cLine) : MtM X "list.remove" rRemP := by
  rintro pins s σ G one args v us R inv rel1 rels ⟨l, vs, ps, y, p, rfl, rfl, hl, prs, pr, mem, q⟩
  cases rel1
  obtain ⟨u, rfl, relu⟩ := rels.one
  obtain ⟨small, its, cnt, rv, hlen, at_⟩ := inv.lstM hl
  obtain ⟨_, ra, _⟩ := DqAll.reads inv _ (prs.dq (E := fun _ => False) fun _ _ _ z => z) rv
  obtain ⟨_, ry, _⟩ := Dq.reads inv _ (pr.dq (E := fun _ => False) fun _ _ _ z => z) relu
  have some_ : (SeqAt.dataPlace (ps.map dP) (dP p)).isSome = true := by
    unfold SeqAt.dataPlace
    rw [List.findIdx?_isSome]
    exact List.any_eq_true.mpr ⟨dP p, List.mem_map.mpr ⟨p, mem, rfl⟩, dP_same p⟩
  obtain ⟨j, hj⟩ := Option.isSome_iff_exists.mp some_
  have jl : j < vs.length := by
    obtain ⟨h1, _⟩ := List.findIdx?_eq_some_iff_getElem.mp hj
    rw [List.length_map] at h1
    rw [prs.len]
    exact h1
  have dep : min (PyData.depthAll (ps.map dP)) (dP p).depth ≤ 1 := Nat.le_trans (Nat.min_le_left _ _) (dPs_depth ps)
  refine SeqAt.remove_list_data (vs := its.toArray) ⟨_, at_, rfl, cnt, rfl⟩ ra ry (dPs_plain ps) (dP_plain p) (by omega) hj (by rw [List.size_toArray, ← hlen]; exact small) ?_
  refine ⟨.non, _, inv.lset (its' := its.eraseIdx j) hl at_ (by simp) (rv.eraseIdx j) ?_, rfl, q j jl⟩
  rw [List.length_eraseIdx]
  split <;> omega
/-- != of data -/
def rNeQ : R2 := fun x y H Q => ∃ (E F : Addr → Prop) (d e : PyData), Dq E H x d ∧ Dq F H y e ∧ SeqAt.shaped d = true ∧ SeqAt.shaped e = true ∧ Q (.bl (!PyData.eqv d e)) H
theorem op_neQ (room : X.A.units + 64 < cLine) : OpR X (compareOp .NotEq) rNeQ := by
  rintro pins s0 σ G one other u1 u2 R inv rel1 rel2 ⟨E, F, d, e, hd, he, sd, se, q⟩
  have ⟨_, reads1, _⟩ := Dq.reads inv d hd rel1
  have ⟨_, reads2, _⟩ := Dq.reads inv e he rel2
  refine SeqAt.compareNe_shaped reads1 reads2 sd se room ?_
  exact ⟨.bl (!PyData.eqv d e), G, inv, rfl, q⟩
end
end C2

namespace C2
set_option Elab.async false
set_option linter.all false
set_option maxRecDepth 100000
set_option maxHeartbeats 1000000
open PySem PySem.Spec PyProof.Rows L2 HT
def InAB (a b : Nat) (q : Int × Int) : Prop := (0 ≤ q.1 ∧ q.1 < (a : Int)) ∧ 0 ≤ q.2 ∧ q.2 < (b : Int)
theorem keeps_fr {p : Addr} {n : Nat} {G G' : Hp} (f : Fr p G G') (h : PotAt G p n) : Keeps G G' := fun b xs e => f _ _ (fun z => by
  obtain ⟨g, c, u, hp, _⟩ := h
  rw [z, hp] at e
  cases e) e
theorem PickAt.keeps {G G' : Hp} {t : Addr} {a b : Nat} {xs ys : List Int} (h : PickAt G t a b xs ys) (s : Keeps G G') : PickAt G' t a b xs ys := by
  obtain ⟨tx, ty, h1, h2, h3, r⟩ := h
  exact ⟨tx, ty, s _ _ h1, s _ _ h2, s _ _ h3, r⟩
theorem PrAt.keeps {G G' : Hp} {v : V} {p : Int × Int} (h : PrAt G v p) (s : Keeps G G') : PrAt G' v p := by
  obtain ⟨c, e, z⟩ := h
  exact ⟨c, e, s _ _ z⟩
theorem Prs.mem {G : Hp} : ∀ {vs : List V} {ps : List (Int × Int)} {v : V}, Prs G vs ps → v ∈ vs → ∃ p, p ∈ ps ∧ PrAt G v p
  | _, _, _, .cons h t, e => by
    rcases List.mem_cons.mp e with rfl | e
    · exact ⟨_, List.mem_cons_self, h⟩
    · obtain ⟨p, a, b⟩ := Prs.mem t e
      exact ⟨p, List.mem_cons_of_mem _ a, b⟩
theorem Prs.erase {G : Hp} : ∀ {vs : List V} {ps : List (Int × Int)} (j : Nat), Prs G vs ps → Prs G (vs.eraseIdx j) (ps.eraseIdx j)
  | _, _, _, .nil => by simp; exact .nil
  | _, _, 0, .cons h t => t
  | _, _, j + 1, .cons h t => .cons h (Prs.erase j t)
theorem pairs_put2 {x y : Int} {ps : List (Int × Int)} : ∃ qs : List (Int × Int), putK (ps.map kOf) [.inl x, .inl y] (.bl true) = qs.map kOf ∧ qs.length ≤ ps.length + 1 := by
  by_cases h : (x, y) ∈ ps
  · refine ⟨ps, ?_, by omega⟩
    unfold putK
    split
    · rw [List.map_map]
      refine List.map_congr_left fun p _ => ?_
      show (if (kOf p).1 = _ then _ else _) = kOf p
      split
      · rfl
      · rfl
    · rename_i z
      exact absurd (List.any_eq_true.mpr ⟨kOf (x, y), List.mem_map.mpr ⟨_, h, rfl⟩, decide_eq_true rfl⟩) z
  · exact ⟨_, pairs_put h, by rw [List.length_append, List.length_singleton]; omega⟩
theorem fr_at {p l : Addr} {H G : Hp} {o : HO} (h : Fr p H G) (n : H l = none) : Fr p H (upd G l o) := fun b x nb e => by
  rw [upd_ne (ne_of_none e n)]
  exact h b x nb e
structure OInv (H : Hp) (p ll D lf : Addr) (a b n r : Nat) (G : Hp) : Prop where
  fr : Fr p H G
  pt : PotAt G p (n + r)
  le : ∃ us ps, G ll = some (.lst us) ∧ Prs G us ps ∧ us.length + r = a * b ∧ ∀ q ∈ ps, InAB a b q
  me : ∃ ms : List (Int × Int), G D = some (.dT (ms.map kOf)) ∧ ms.length ≤ r
  fo : ∃ fs qs, G lf = some (.lst fs) ∧ Prs G fs qs ∧ fs.length = r ∧ ∀ q ∈ qs, InAB a b q
section
variable {P : Program} {w : World} {K : PySem.W.Frag} {mg : Str → Option Value} {base : Heap}
abbrev NOr : List Str := ["_law_pot_here", "_law_chosen", "_law_a", "_law_b", "_law_left", "_law_met", "_law_found", "_law_turn", "_law_some", "_law_one", "_law_here", "_law_at", "_law_other"]
theorem scOrder : FnScope NOr ["_law_pot_here", "_law_chosen"] (defScope sOrder) := ⟨rfl, rfl, rfl, by decide +kernel, rfl, by decide +kernel, by decide +kernel⟩
def teAt : TE := tTup (tCons (tOp (rI (fun _ j => 0 < j) fun i j => V.int (i % j)) (tVar 11) (tVar 2)) (tCons (tOp (rI CDiv fun i j => V.int (i / j)) (tVar 11) (tVar 2)) tNil))
def teOr : TE := tDIn (tVar 12) (tVar 5)
def spOrder : Sp := fun vs H Q _ => ∃ (p t : Addr) (a b n : Nat) (xs ys : List Int), vs = [.ref p, .ref t] ∧ PickAt H t a b xs ys ∧ a ≤ 9 ∧ b ≤ 9 ∧ PotAt H p n ∧ n < 900000 ∧ ∀ (T : Addr) fs qs H', Fr p H H' → PotAt H' p (n + 81) → H' T = some (.tup fs) → H T = none → Prs H' fs qs → fs.length = a * b → (∀ q ∈ qs, InAB a b q) → Q (.ref T) H'
theorem ok_order {f fT fO fA fC : Addr} {fd fdT fdO fdA fdC : FuncData} {k : Nat} (F : Fun K "_law_order" "_law_order" sOrder f fd) (FT : Fun K "_law_take" "_law_take" sTake fT fdT) (FO : Fun K "_law_of" "_law_of" sOf fO fdO) (FA : Fun K "_law_wants" "_law_wants" sWants fA fdA) (FC : Fun K "_law_comes" "_law_comes" sLComes fC fdC) (bT : Binds K fdT ["_law_pot_here", "_law_many"] []) (bO : Binds K fdO ["_law_pot_here", "_law_some"] []) (bA : Binds K fdA ["_law_chosen", "_law_i", "_law_j"] []) (bC : Binds K fdC ["_law_chosen", "_law_i", "_law_j"] [])
    (gT : mg "_law_take" = some (.ref fT)) (gO : mg "_law_of" = some (.ref fO)) (gA : mg "_law_wants" = some (.ref fA)) (gC : mg "_law_comes" = some (.ref fC)) (mint : mg "int" = none) (mtup : mg "tuple" = none) (ml : mg "len" = none) (mall : mg "all" = none) (mr : mg "range" = none) : FnOk P w K mg base CX0 (k + 3) f fd ["_law_pot_here", "_law_chosen"] spOrder := by
  have GA : FnOk P w K mg base CX0 (k + 2) fA fdA ["_law_chosen", "_law_i", "_law_j"] spWanted := ok_wants FA FC bC gC mint
  have GO : FnOk P w K mg base CX0 (k + 2) fO fdO ["_law_pot_here", "_law_some"] (spOf K) := ok_of FO FT bT gT ml
  refine F.ok scOrder (fun vs H Q E h => ?_) (fun cdv A outer s H vs Q E hr h => ?_)
  · obtain ⟨p, t, a, b, n, xs, ys, rfl, _⟩ := h
    rfl
  obtain ⟨p, t, a, b, n, xs, ys, rfl, pk, a9, b9, hP, hn, q⟩ := h
  have nd := scOrder.nd
  refine ⟨_, pss_cons (ps_asg (pe_tup (pa_cons (pe_callB call_len_seq (by rfl) ml PySem.boot_len (pa_cons (pe_ix ix_tup (pv 1) pe_int (fun _ _ => rfl)) pa_nil)) (pa_cons (pe_callB call_len_seq (by rfl) ml PySem.boot_len (pa_cons (pe_ix ix_tup (pv 1) pe_int (fun _ _ => rfl)) pa_nil)) pa_nil))) (pg_tup rfl (pgs_cons (pg_name (i := 2) nd rfl (.inr rfl)) (pgs_cons (pg_name (i := 3) nd rfl (.inl rfl)) pgs_nil))))
      (pss_cons (ps_asg (pe_tup (pa_cons (pe_lc (own := [("_law_at", 11)]) (g := gName 11) (tt := tYes) (te := teAt) rfl nd (pi_range1 (by rfl) mr (pa_cons (pe_op op_mul (pv 2) (pv 3)) pa_nil)) (blkOk_by (own := [("_law_at", 11)]) (N := NOr) (sc := defScope sOrder) (by decide +kernel)) (fun _ _ _ _ _ => pg_name (i := 11) nd rfl (.inl rfl)) (fun _ _ _ _ _ => pts_nil) (fun _ _ _ _ _ => (pe_tup (pa_cons (pe_op op_mod (pv 11) (pv 2)) (pa_cons (pe_op op_fdiv (pv 11) (pv 2)) pa_nil))))) (pa_cons pe_dnewT (pa_cons (pe_lst pa_nil) pa_nil)))) (pg_tup rfl (pgs_cons (pg_name (i := 4) nd rfl (.inl rfl)) (pgs_cons (pg_name (i := 5) nd rfl (.inr rfl)) (pgs_cons (pg_name (i := 6) nd rfl (.inl rfl)) pgs_nil)))))
      (pss_cons (ps_for PassesOwn.never rfl (pi_range1 (by rfl) mr (pa_cons (pe_op op_mul (pv 2) (pv 3)) pa_nil)) (pg_name (i := 7) nd rfl (.inl rfl)) (pss_cons (ps_set (i := 8) nd rfl (.inl rfl) (pe_lstS pa_nil))
      (pss_cons (ps_for PassesOwn.never rfl (pi_list (pv 4)) (pg_name (i := 9) nd rfl (.inl rfl)) (pss_one (ps_if (pt_val (pe_callB (cr_all rfl) (by rfl) mall (by decide +kernel) (pa_cons (pe_lc (own := [("_law_other", 12)]) (g := gName 12) (tt := tYes) (te := teOr) rfl nd (pi_list (pe_call GA (hr.mono (by omega)) (by rfl) gA FA.kp bA .nil pass0 (pa_cons (pv 1) (pa_cons (pe_ix ix_tup (pv 9) pe_int (fun _ _ => rfl)) (pa_cons (pe_ix ix_tup (pv 9) pe_int (fun _ _ => rfl)) pa_nil))))) (blkOk_by (own := [("_law_other", 12)]) (N := NOr) (sc := defScope sOrder) (by decide +kernel)) (fun _ _ _ _ _ => pg_name (i := 12) nd rfl (.inl rfl)) (fun _ _ _ _ _ => pts_nil) (fun _ _ _ _ _ => (pe_cmp (pc_din (Nat.lt_of_le_of_lt (Nat.add_le_add_left (by decide) _) hr.units) (pv 12) (pv 5))))) pa_nil))) (pss_one (ps_expr (pe_bm PySem.F.plainAttrs_list PySem.F.slot_list_append PySem.F.type_list_append mt_append (pv 8) (pa_cons (pv 9) pa_nil)))) pss_nil)))
      (pss_cons (ps_set (i := 10) nd rfl (.inl rfl) (pe_call GO (hr.mono (by omega)) (by rfl) gO FO.kp bO .nil pass0 (pa_cons (pv 0) (pa_cons (pe_ifExp (pt_cmpR (op_neQ hr.units) (pv 8) (pe_lstS pa_nil) (nomark _)) (pv 8) (pv 4)) pa_nil))))
      (pss_cons (ps_dput (Nat.lt_of_le_of_lt (Nat.add_le_add_left (by decide) _) hr.units) (pv 5) (pv 10) pe_bl (by rfl))
      (pss_cons (ps_expr (pe_bm PySem.F.plainAttrs_list PySem.F.slot_list_append PySem.F.type_list_append mt_append (pv 6) (pa_cons (pv 10) pa_nil)))
      (pss_one (ps_expr (pe_bm PySem.F.plainAttrs_list PySem.F.slot_list_remove PySem.F.type_list_remove (mt_removeP hr.units) (pv 4) (pa_cons (pv 10) pa_nil))))))))))
      (pss_one (ps_ret (pe_callTy call_tuple_of (by rfl) mtup (by decide +kernel) (pa_cons (pv 6) pa_nil)))))), ?_⟩
  obtain ⟨tx, ty, k1, k2, k3, l1, l2, u1, u2⟩ := id pk
  refine ⟨.ref t, rfl, t, _, 1, .ref ty, rfl, rfl, .inl (.inl k1), rfl, ty, _, rfl, .inr (.inl (.inl k3)), .ref t, rfl, t, _, 0, .ref tx, rfl, rfl, .inl (.inl k1), rfl, tx, _, rfl, .inr (.inl (.inl k2)), by show 2 ≤ sizeLine; decide, fun T0 n0 => ?_⟩
  rw [List.length_map, List.length_map, l1, l2]
  have s0 := same_upd (o := .tup [.int (a : Int), .int (b : Int)]) n0
  refine ⟨T0, _, rfl, .inl (.inl upd_same), rfl, _, _, rfl, _, _, rfl, rfl, ?_⟩
  have pk0 := pk.same s0
  have P0 := hP.same s0
  have F0 : Fr p H _ := Fr.same s0
  generalize upd H T0 (.tup [.int (a : Int), .int (b : Int)]) = H0 at pk0 P0 F0 ⊢
  have hN : ((a : Int) * (b : Int)).toNat = a * b := by
    rw [← Int.natCast_mul]
    exact Int.toNat_natCast _
  have ab81 : a * b ≤ 81 := Nat.mul_le_mul a9 b9
  have abI : (a : Int) * (b : Int) = ((a * b : Nat) : Int) := (Int.natCast_mul a b).symm
  show tSeq (tAsg (tTup (tCons (tLc (iRng1 (tCons (tOp (rI CMul fun i j => V.int (i * j)) (tVar 2) (tVar 3)) tNil)) (gName 11) tYes teAt [11]) _)) _) _ _ [some (.ref p), some (.ref t), some (.int (a : Int)), some (.int (b : Int)), none, none, none, none, none, none, none, none, none] H0
  refine ⟨.int (a : Int), rfl, .int (b : Int), rfl, (a : Int), (b : Int), rfl, rfl, .inl ⟨by omega, by omega⟩, (a : Int) * (b : Int), rfl, by omega, by omega, fun ll nll => ?_⟩
  have llp : ll ≠ p := P0.ne nll
  refine lc_range (lo := 0) (n := ((a : Int) * (b : Int)).toNat) (fun j G => Same H0 G ∧ ∃ us ps, G ll = some (.lst us) ∧ Prs G us ps ∧ us.length = j ∧ ∀ q ∈ ps, InAB a b q) ⟨same_upd nll, [], [], upd_same, .nil, rfl, fun q hq => nomatch hq⟩ ?_ ?_
  · rintro j G hj ⟨sm, us, ps, hl, pr, lu, inn⟩
    rw [Int.zero_add]
    refine ⟨rfl, ?_⟩
    simp only [tYes, ↓reduceIte]
    rw [hN] at hj
    have a0 : 0 < a := by
      cases a with
      | zero => rw [Nat.zero_mul] at hj; omega
      | succ a => exact Nat.succ_pos _
    refine ⟨.int (j : Int), rfl, .int (a : Int), rfl, (j : Int), (a : Int), rfl, rfl, by omega, .int (j : Int), rfl, .int (a : Int), rfl, (j : Int), (a : Int), rfl, rfl, ⟨by omega, by omega⟩, by show 2 ≤ sizeLine; decide, fun c nc => ?_⟩
    have sc := same_upd (o := .tup [.int ((j : Int) % (a : Int)), .int ((j : Int) / (a : Int))]) nc
    have hl2 := sc _ _ hl
    have kp : Keeps _ (upd (upd G c (.tup [.int ((j : Int) % (a : Int)), .int ((j : Int) / (a : Int))])) ll (.lst (us ++ [.ref c]))) := Keeps.at hl2 (fun xs z => nomatch z)
    refine ⟨us, hl2, Nat.lt_of_lt_of_le (show us.length < 1000 by omega) (by decide), fun b' o' e' => ?_, us ++ [.ref c], ps ++ [((j : Int) % (a : Int), (j : Int) / (a : Int))], upd_same, ((pr.same sc).keeps kp).app (.cons ⟨c, rfl, kp _ _ upd_same⟩ .nil), by rw [List.length_append, List.length_singleton, lu], fun q hq => ?_⟩
    · rw [upd_ne (ne_of_none e' nll)]
      exact sc _ _ (sm _ _ e')
    · rcases List.mem_append.mp hq with hq | hq
      · exact inn q hq
      · rw [List.mem_singleton.mp hq]
        refine ⟨⟨Int.emod_nonneg _ (by omega), Int.emod_lt_of_pos _ (by omega)⟩, Int.ediv_nonneg (by omega) (by omega), ?_⟩
        refine Int.ediv_lt_of_lt_mul (by omega) ?_
        rw [← Int.natCast_mul, Nat.mul_comm b a]
        exact Int.ofNat_lt.mpr hj
  rintro G1 ⟨sm1, us, ps, hl, pr, lu, inn⟩
  rw [hN] at lu
  refine fun D nD => ⟨by decide, fun lf nlf => ⟨by show 3 ≤ sizeLine; decide, fun T1 nT1 => ?_⟩⟩
  have t1 := same_upd (o := .dT []) nD
  have t2 := same_upd (o := .lst []) nlf
  have t3 := same_upd (o := .tup [.ref ll, .ref D, .ref lf]) nT1
  have t13 := t1.trans (t2.trans t3)
  have I0 : OInv H p ll D lf a b n 0 _ := ⟨F0.trans (Fr.same (sm1.trans t13)), (P0.same sm1).same t13, ⟨us, ps, t13 _ _ hl, pr.same t13, by omega, inn⟩, ⟨[], (t2.trans t3) _ _ upd_same, Nat.le_refl _⟩, ⟨[], [], t3 _ _ upd_same, .nil, rfl, fun q hq => nomatch hq⟩⟩
  refine ⟨T1, _, rfl, .inl (.inl upd_same), rfl, _, _, rfl, _, _, rfl, _, _, rfl, rfl, ?_⟩
  have P1 := P0.same sm1
  have nDp : D ≠ p := P1.ne nD
  have nlfp : lf ≠ p := (P1.same t1).ne nlf
  have nllD : ll ≠ D := fun z => by rw [z, nD] at hl; cases hl
  have nlllf : ll ≠ lf := fun z => by rw [z] at hl; rw [t1 _ _ hl] at nlf; cases nlf
  have nDlf : D ≠ lf := fun z => by rw [← z, upd_same] at nlf; cases nlf
  have nllH : H ll = none := by
    cases e : H ll with
    | none => rfl
    | some o => rw [F0 _ _ llp e] at nll; cases nll
  have nDH : H D = none := by
    cases e : H D with
    | none => rfl
    | some o => rw [sm1 _ _ (F0 _ _ nDp e)] at nD; cases nD
  have nlfH : H lf = none := by
    cases e : H lf with
    | none => rfl
    | some o => rw [t1 _ _ (sm1 _ _ (F0 _ _ nlfp e))] at nlf; cases nlf
  generalize upd (upd (upd G1 D (.dT [])) lf (.lst [])) T1 (.tup [.ref ll, .ref D, .ref lf]) = G2 at I0 ⊢
  refine ⟨.int (a : Int), rfl, .int (b : Int), rfl, (a : Int), (b : Int), rfl, rfl, .inl ⟨by omega, by omega⟩, (a : Int) * (b : Int), rfl, by omega, by omega, ?_⟩
  refine for_range (lo := 0) (n := ((a : Int) * (b : Int)).toNat) (fun r σ G => OInv H p ll D lf a b n r G ∧ ∃ y7 y8 y9 y10, σ = [some (.ref p), some (.ref t), some (.int (a : Int)), some (.int (b : Int)), some (.ref ll), some (.ref D), some (.ref lf), y7, y8, y9, y10, none, none]) ⟨I0, _, _, _, _, rfl⟩ ?_ ?_
  · rintro r σ G hr0 ⟨⟨fr, pt, ⟨us, ps, hl, pr, lu, inn⟩, ⟨ms, hD, lms⟩, ⟨fs, qs, hf, prf, lf', innf⟩⟩, y7, y8, y9, y10, rfl⟩
    rw [hN] at hr0
    refine ⟨by decide, fun ls nls yls => ?_⟩
    have g0 := same_upd (o := .lst []) nls
    have lsp : ls ≠ p := pt.ne nls
    have lsl : ls ≠ ll := (ne_of_none hl nls).symm
    have lsD : ls ≠ D := (ne_of_none hD nls).symm
    have lsf : ls ≠ lf := (ne_of_none hf nls).symm
    refine ⟨.ref ll, rfl, ll, rfl, ⟨_, .inl (.inl (g0 _ _ hl))⟩, ?_⟩
    refine for_list (xs := us) (fun m σ G' => Same G G' ∧ (∃ zs, G' ls = some (.lst zs) ∧ zs.length ≤ m ∧ ∀ v ∈ zs, v ∈ us) ∧ ∃ y9 y10, σ = [some (.ref p), some (.ref t), some (.int (a : Int)), some (.int (b : Int)), some (.ref ll), some (.ref D), some (.ref lf), some (.int (0 + (r : Int))), some (.ref ls), y9, y10, none, none]) ⟨g0, ⟨[], upd_same, Nat.le_refl _, fun v hv => nomatch hv⟩, _, _, rfl⟩ (fun m σ G' _ h => .inl (.inl (h.1 _ _ hl))) ?_ ?_
    · rintro m x σ G' hx ⟨sm, ⟨zs, hz, lz, sub⟩, y9, y10, rfl⟩
      have m81 : m < us.length := (List.getElem?_eq_some_iff.mp hx).1
      obtain ⟨pq, hpq, prx⟩ := pr.at_ hx
      obtain ⟨⟨i0, i1⟩, j0, j1⟩ := inn pq (List.mem_of_getElem? hpq)
      obtain ⟨pi, pj⟩ := pq
      obtain ⟨i, rfl⟩ : ∃ i : Nat, pi = (i : Int) := ⟨pi.toNat, (Int.toNat_of_nonneg i0).symm⟩
      obtain ⟨j, rfl⟩ : ∃ j : Nat, pj = (j : Int) := ⟨pj.toNat, (Int.toNat_of_nonneg j0).symm⟩
      obtain ⟨cx, rfl, hcx⟩ := prx
      have hcx' := sm _ _ hcx
      have pkG : PickAt G' t a b xs ys := ((pk.keeps (keeps_fr fr hP)).same sm)
      show tIfS (tB (tCB (rAll K) (tCons (tLc (iList K (tCall spWanted [] E0 (tCons (tVar 1) (tCons (tOp (rIxT K) (tVar 9) (tC (V.int 0))) (tCons (tOp (rIxT K) (tVar 9) (tC (V.int 1))) tNil))))) (gName 12) tYes teOr [12]) tNil))) _ _ _ [some (.ref p), some (.ref t), some (.int (a : Int)), some (.int (b : Int)), some (.ref ll), some (.ref D), some (.ref lf), some (.int (0 + (r : Int))), some (.ref ls), some (.ref cx), y10, none, none] G'
      refine all_in (sl := 12) (dl := 5) (d := D) (ps := ms) (ws := wantL xs ys i j) ?_ (fun v => rfl) (fun v => rfl) (fun v => rfl) (sm _ _ hD) (fun R hR => ⟨.ref t, rfl, .ref cx, rfl, cx, _, 0, .int (i : Int), rfl, rfl, .inl (.inl hcx'), rfl, .ref cx, rfl, cx, _, 1, .int (j : Int), rfl, rfl, .inl (.inl hcx'), rfl, t, a, b, i, j, xs, ys, rfl, pkG, Int.ofNat_lt.mp i1, Int.ofNat_lt.mp j1, fun l us' H' s' _ hl pr => hR l us' H' s' hl pr⟩) fun B4 G3 e4 s3 => ⟨B4, rfl, ite2 (fun z6 => ?_) (fun z6 => ?_)⟩
      · unfold wantL wantOf
        rw [List.length_append]
        split <;> split <;> simp
      · have hz3 := s3 _ _ hz
        refine ⟨.ref ls, rfl, .inl ⟨rfl, _, .inl (.inl hz3)⟩, .ref cx, rfl, ls, zs, .ref cx, rfl, rfl, hz3, Nat.lt_of_lt_of_le (show zs.length < 1000 by omega) (by decide), ?_⟩
        refine ⟨fun b' o' e' => ?_, ⟨zs ++ [.ref cx], upd_same, by rw [List.length_append, List.length_singleton]; omega, fun v hv => ?_⟩, _, _, rfl⟩
        · rw [upd_ne (ne_of_none e' nls)]
          exact s3 _ _ (sm _ _ e')
        · rcases List.mem_append.mp hv with hv | hv
          · exact sub v hv
          · rw [List.mem_singleton.mp hv]
            exact List.mem_of_getElem? hx
      · exact ⟨sm.trans s3, ⟨zs, s3 _ _ hz, by omega, sub⟩, _, _, rfl⟩
    · rintro σ G' ⟨sm, ⟨zs, hz, lz, sub⟩, y9, y10, rfl⟩
      have ptG := pt.same sm
      refine ⟨.ref p, rfl, .ref ls, rfl, by decide, fun le nle yle => ?_⟩
      have g1 := same_upd (o := .lst []) nle
      have sm1' := sm.trans g1
      have zds : ∃ ws, Prs G zs ws := by
        have : ∀ {vs : List V}, (∀ v ∈ vs, v ∈ us) → ∃ ws, Prs G vs ws := by
          intro vs
          induction vs with
          | nil => intro _; exact ⟨[], .nil⟩
          | cons v vs ih =>
            intro h
            obtain ⟨ws, hw⟩ := ih fun x hx => h x (List.mem_cons_of_mem _ hx)
            obtain ⟨pv, _, hpv⟩ := pr.mem (h v List.mem_cons_self)
            exact ⟨pv :: ws, .cons hpv hw⟩
        exact this sub
      obtain ⟨ws, prz⟩ := zds
      have dz : Dq (fun _ => False) _ (.ref ls) (.list (ws.map dP)) := .lst (g1 _ _ hz) (fun z => z) yls ((prz.same sm1').dq fun _ _ _ z => z)
      have shz : SeqAt.shaped (.list (ws.map dP)) = true := by
        unfold SeqAt.shaped
        rw [PyData.canLay0, dPs_lay, Bool.true_and]
        have := dPs_depth ws
        refine decide_eq_true ?_
        rw [PyData.depth]
        omega
      refine ⟨(fun _ => False), (fun _ => False), _, .list [], dz, .lst upd_same (fun z => z) yle .nil, shz, by decide +kernel, _, rfl, ?_⟩
      refine both_of (fun x H' => H' = upd G' le (.lst []) ∧ ∃ l vs, x = V.ref l ∧ l ≠ p ∧ (upd G' le (.lst [])) l = some (.lst vs) ∧ 0 < vs.length ∧ vs.length ≤ 81 ∧ ∀ v ∈ vs, v ∈ us) ?_ (fun hk z => ⟨.ref ls, rfl, hk _ _ ⟨rfl, ls, zs, rfl, lsp, g1 _ _ hz, ?_, by omega, sub⟩⟩) (fun hk z => ⟨.ref ll, rfl, hk _ _ ⟨rfl, ll, us, rfl, llp, sm1' _ _ hl, by omega, by omega, fun v hv => hv⟩⟩)
      · rintro x H' ⟨rfl, l, vs, rfl, lp, hlv, v0, v81, vsub⟩
        refine ⟨p, l, vs, n + r, rfl, ptG.same g1, by omega, lp, .inl (.inl hlv), v0, by omega, fun v G3 f3 P3 mem => ?_⟩
        have vu := vsub v mem
        obtain ⟨pv, hpv, prv⟩ := pr.mem vu
        have kG : Keeps G G3 := (Keeps.same sm1').trans (keeps_fr f3 (ptG.same g1))
        have f3' : ∀ {b' o'}, b' ≠ p → G b' = some o' → G3 b' = some o' := fun nb e => f3 _ _ nb (sm1' _ _ e)
        obtain ⟨cv, rfl, hcv⟩ := id prv
        have hcv3 := kG _ _ hcv
        have hD3 := f3' nDp hD
        have hf3 := f3' nlfp hf
        have hl3 := f3' llp hl
        obtain ⟨ms2, ems, lms2⟩ := pairs_put2 (x := pv.1) (y := pv.2) (ps := ms)
        refine ⟨.ref D, rfl, .ref cv, rfl, D, _, rfl, DPut.t (k := [.inl pv.1, .inl pv.2]) hD3 hcv3 (by rw [List.length_map]; exact Nat.lt_of_lt_of_le (show ms.length < 2000 by omega) (by decide)), ?_⟩
        rw [ems]
        have kD : Keeps G3 (upd G3 D (.dT (ms2.map kOf))) := Keeps.at hD3 (fun xs z => nomatch z)
        have hf4 : (upd G3 D (.dT (ms2.map kOf))) lf = some (.lst fs) := by rw [upd_ne nDlf.symm]; exact hf3
        have hl4 : (upd G3 D (.dT (ms2.map kOf))) ll = some (.lst us) := by rw [upd_ne nllD]; exact hl3
        have pt4 : PotAt (upd G3 D (.dT (ms2.map kOf))) p (n + r + 1) := P3.at nDp
        have hD4 : (upd G3 D (.dT (ms2.map kOf))) D = some (.dT (ms2.map kOf)) := upd_same
        have fr4 : Fr p H (upd G3 D (.dT (ms2.map kOf))) := fr_at (fr.trans ((Fr.same sm1').trans f3)) nDH
        generalize upd G3 D (.dT (ms2.map kOf)) = G4 at kD hf4 hl4 pt4 hD4 fr4 ⊢
        refine ⟨.ref lf, rfl, .inl ⟨rfl, _, .inl (.inl hf4)⟩, .ref cv, rfl, lf, fs, .ref cv, rfl, rfl, hf4, Nat.lt_of_lt_of_le (show fs.length < 1000 by omega) (by decide), ?_⟩
        have kF : Keeps G4 (upd G4 lf (.lst (fs ++ [.ref cv]))) := Keeps.at hf4 (fun xs z => nomatch z)
        have hl5 : (upd G4 lf (.lst (fs ++ [.ref cv]))) ll = some (.lst us) := by rw [upd_ne nlllf]; exact hl4
        have hD5 : (upd G4 lf (.lst (fs ++ [.ref cv]))) D = some (.dT (ms2.map kOf)) := by rw [upd_ne nDlf]; exact hD4
        have hf5 : (upd G4 lf (.lst (fs ++ [.ref cv]))) lf = some (.lst (fs ++ [.ref cv])) := upd_same
        have pt5 := pt4.at (o := .lst (fs ++ [.ref cv])) nlfp
        have fr5 : Fr p H (upd G4 lf (.lst (fs ++ [.ref cv]))) := fr_at fr4 nlfH
        have k5 := kG.trans (kD.trans kF)
        generalize upd G4 lf (.lst (fs ++ [.ref cv])) = G5 at kF hl5 hD5 hf5 pt5 fr5 k5 ⊢
        refine ⟨.ref ll, rfl, .inl ⟨rfl, _, .inl (.inl hl5)⟩, .ref cv, rfl, ll, us, ps, .ref cv, pv, rfl, rfl, hl5, pr.keeps k5, ⟨cv, rfl, k5 _ _ hcv⟩, hpv, fun j hj => ?_⟩
        have kL : Keeps G5 (upd G5 ll (.lst (us.eraseIdx j))) := Keeps.at hl5 (fun xs z => nomatch z)
        have k6 := k5.trans kL
        refine ⟨⟨fr_at fr5 nllH, (pt5.at llp), ⟨us.eraseIdx j, ps.eraseIdx j, upd_same, (pr.keeps k6).erase j, ?_, fun q hq => inn q (List.mem_of_mem_eraseIdx hq)⟩, ⟨ms2, by rw [upd_ne nllD.symm]; exact hD5, by omega⟩, ⟨fs ++ [.ref cv], qs ++ [pv], by rw [upd_ne nlllf.symm]; exact hf5, (prf.keeps k6).app (.cons ⟨cv, rfl, k6 _ _ hcv⟩ .nil), by rw [List.length_append, List.length_singleton, lf'], fun q hq => ?_⟩⟩, _, _, _, _, rfl⟩
        · rw [List.length_eraseIdx, if_pos hj]
          omega
        · rcases List.mem_append.mp hq with hq | hq
          · exact innf q hq
          · rw [List.mem_singleton.mp hq]; exact inn pv hpv
      · cases zs with
        | nil =>
          cases prz
          exact absurd z (by decide +kernel)
        | cons v zs => exact Nat.succ_pos _
  · rintro σ G ⟨⟨fr, pt, ⟨us, ps, hl, pr, lu, inn⟩, ⟨ms, hD, lms⟩, ⟨fs, qs, hf, prf, lf', innf⟩⟩, y7, y8, y9, y10, rfl⟩
    rw [hN] at lf' pt
    refine ⟨.ref lf, rfl, lf, _, rfl, .inl ⟨.inl (.inl hf), fun T nT => ?_⟩⟩
    have sT := same_upd (o := .tup fs) nT
    exact q T fs qs _ (fr.trans (Fr.same sT)) ((pt.same sT).mono (by omega)) upd_same (by
      cases e : H T with
      | none => rfl
      | some o => rw [fr _ _ (pt.ne nT) e] at nT; cases nT) (prf.same sT) lf' innf
end
end C2

namespace C2
set_option Elab.async false
set_option linter.all false
set_option maxRecDepth 100000
set_option maxHeartbeats 1000000
open PySem PySem.Spec PyProof.Rows L2 HT
section
variable {X : Cx}
/-- == of data -/
def rEqQ : R2 := fun x y H Q => ∃ (E F : Addr → Prop) (d e : PyData), Dq E H x d ∧ Dq F H y e ∧ SeqAt.shaped d = true ∧ SeqAt.shaped e = true ∧ Q (.bl (PyData.eqv d e)) H
theorem op_eqQ (room : X.A.units + 64 < cLine) : OpR X (compareOp .Eq) rEqQ := by
  rintro pins s0 σ G one other u1 u2 R inv rel1 rel2 ⟨E, F, d, e, hd, he, sd, se, q⟩
  have ⟨_, reads1, _⟩ := Dq.reads inv d hd rel1
  have ⟨_, reads2, _⟩ := Dq.reads inv e he rel2
  refine SeqAt.compareEq_shaped reads1 reads2 sd se room ?_
  exact ⟨.bl (PyData.eqv d e), G, inv, rfl, q⟩
end
theorem Thgs.app {E : Addr → Prop} {H : Hp} {vs ws : List V} {dp wt : Nat} (h : Thgs E H vs dp wt) (t : Thgs E H ws dp wt) : Thgs E H (vs ++ ws) dp wt := fun v hv => (List.mem_append.mp hv).elim (h v) (t v)
theorem Thgs.less {E F : Addr → Prop} {H : Hp} {vs : List V} {dp wt : Nat} (h : Thgs E H vs dp wt) (f : ∀ a, F a → E a) : Thgs F H vs dp wt := fun v hv => by
  obtain ⟨d, a, b⟩ := h v hv
  exact ⟨d, a.less f, b⟩
theorem Thgs.more {E : Addr → Prop} {H : Hp} {vs : List V} {dp wt : Nat} {l : Addr} (h : Thgs E H vs dp wt) (nl : H l = none) : Thgs (fun a => E a ∨ a = l) H vs dp wt := fun v hv => by
  obtain ⟨d, a, b⟩ := h v hv
  exact ⟨d, a.more nl, b⟩
theorem Thgs.all {E : Addr → Prop} {H : Hp} {dp wt : Nat} : ∀ {vs : List V}, Thgs E H vs dp wt → ∃ ds, DqAll E H vs ds ∧ ∀ x ∈ ds, Oq x dp wt
  | [], _ => ⟨[], .nil, fun x hx => nomatch hx⟩
  | v :: vs, h => by
    obtain ⟨ds, a, b⟩ := Thgs.all (vs := vs) fun x hx => h x (List.mem_cons_of_mem _ hx)
    obtain ⟨d, c, e⟩ := h v List.mem_cons_self
    refine ⟨d :: ds, .cons c a, fun x hx => ?_⟩
    rcases List.mem_cons.mp hx with rfl | hx
    · exact e
    · exact b x hx
theorem DqAll.thgs {E : Addr → Prop} {H : Hp} {vs : List V} {ds : List PyData} {dp wt : Nat} (h : DqAll E H vs ds) (o : ∀ x ∈ ds, Oq x dp wt) : Thgs E H vs dp wt := fun v hv => by
  obtain ⟨d, a, b⟩ := h.nth hv
  exact ⟨d, b, o d a⟩
theorem TupD.more {E : Addr → Prop} {H : Hp} {a l : Addr} {ds : List PyData} (h : TupD E H a ds) (nl : H l = none) : TupD (fun a => E a ∨ a = l) H a ds := by
  obtain ⟨xs, e, n, t⟩ := h
  exact ⟨xs, e, fun z => z.elim n (ne_of_none e nl), t.more nl⟩
/-- what stands while an order is bent -/
structure BW (E : Addr → Prop) (p : Addr) (H : Hp) (L : List (Addr × List V)) (M : List (Addr × List PyData)) (qs vs : List V) (n : Nat) (G : Hp) : Prop where
  np : E p
  fr : Fr p H G
  pt : PotAt G p n
  ln : LstN E G
  ls : ∀ a us, (a, us) ∈ L → a ≠ p ∧ H a = none ∧ G a = some (.lst us)
  nd : (L.map (·.1)).Nodup
  ts : ∀ a ds, (a, ds) ∈ M → TupD E G a ds ∧ (∀ x ∈ ds, Oq x 1 400) ∧ ds.length ≤ 81
  sm : Thgs E G qs 1 400
  th : Thgs E G vs 2 70000
namespace BW
variable {E : Addr → Prop} {p : Addr} {H : Hp} {L : List (Addr × List V)} {M : List (Addr × List PyData)} {qs vs : List V} {n : Nat} {G G' : Hp}
theorem same (w : BW E p H L M qs vs n G) (s : Same G G') : BW E p H L M qs vs n G' :=
  ⟨w.np, w.fr.trans (Fr.same s), w.pt.same s, w.ln.same s, fun a us h => by obtain ⟨x, y, z⟩ := w.ls a us h; exact ⟨x, y, s _ _ z⟩, w.nd, fun a ds h => by obtain ⟨x, y⟩ := w.ts a ds h; exact ⟨x.fr (FrX.same s), y⟩, w.sm.fr (FrX.same s), w.th.fr (FrX.same s)⟩
theorem draw {m : Nat} (w : BW E p H L M qs vs n G) (f : Fr p G G') (P : PotAt G' p m) : BW E p H L M qs vs m G' :=
  ⟨w.np, w.fr.trans f, P, w.ln.fr f P, fun a us h => by obtain ⟨x, y, z⟩ := w.ls a us h; exact ⟨x, y, f _ _ x z⟩, w.nd, fun a ds h => by obtain ⟨x, y⟩ := w.ts a ds h; exact ⟨x.fr (FrX.of f w.np), y⟩, w.sm.fr (FrX.of f w.np), w.th.fr (FrX.of f w.np)⟩
theorem put {v : V} {d : PyData} (w : BW E p H L M qs vs n G) (h : Dq E G v d) (o : Oq d 2 70000) : BW E p H L M qs (v :: vs) n G := { w with th := .cons h o w.th }
theorem small {us : List V} (w : BW E p H L M qs vs n G) (h : Thgs E G us 1 400) : BW E p H L M (us ++ qs) vs n G := { w with sm := h.app w.sm }
theorem tup {a : Addr} {ds : List PyData} (w : BW E p H L M qs vs n G) (h : TupD E G a ds) (o : ∀ x ∈ ds, Oq x 1 400) (l : ds.length ≤ 81) : BW E p H L ((a, ds) :: M) qs vs n G :=
  ⟨w.np, w.fr, w.pt, w.ln, w.ls, w.nd, fun b es hb => by
    rcases List.mem_cons.mp hb with z | hb
    · cases z; exact ⟨h, o, l⟩
    · exact w.ts b es hb, w.sm, w.th⟩
theorem hnone {l : Addr} (w : BW E p H L M qs vs n G) (nl : G l = none) : H l = none := by
  cases e : H l with
  | none => rfl
  | some o => rw [w.fr _ _ (w.pt.ne nl) e] at nl; cases nl
/-- a list that will change -/
theorem new {l : Addr} {us : List V} (w : BW E p H L M qs vs n G) (nl : G l = none) : BW (fun a => E a ∨ a = l) p H ((l, us) :: L) M qs vs n (upd G l (.lst us)) := by
  have s := same_upd (o := .lst us) nl
  refine ⟨.inl w.np, w.fr.trans (Fr.same s), w.pt.same s, (w.ln.same s).more upd_same, fun a vs h => ?_, ?_, fun a ds h => ?_, (w.sm.more nl).fr (FrX.same s), (w.th.more nl).fr (FrX.same s)⟩
  · rcases List.mem_cons.mp h with z | h
    · cases z; exact ⟨w.pt.ne nl, w.hnone nl, upd_same⟩
    · obtain ⟨x, y, z⟩ := w.ls a vs h
      exact ⟨x, y, s _ _ z⟩
  · rw [List.map_cons, List.nodup_cons]
    refine ⟨fun h => ?_, w.nd⟩
    obtain ⟨⟨a, us'⟩, h, e⟩ := List.mem_map.mp h
    obtain ⟨_, _, z⟩ := w.ls a us' h
    have e : a = l := e
    rw [e, nl] at z
    cases z
  · obtain ⟨x, y⟩ := w.ts a ds h
    exact ⟨(x.more nl).fr (FrX.same s), y⟩
theorem set {l : Addr} {us us' : List V} (w : BW E p H ((l, us) :: L) M qs vs n G) (el : E l) : BW E p H ((l, us') :: L) M qs vs n (upd G l (.lst us')) := by
  obtain ⟨lp, hl, gl⟩ := w.ls l us (List.Mem.head _)
  have fx : FrX E G (upd G l (.lst us')) := fun b o nb hb => by
    have nl : b ≠ l := fun z => nb (z ▸ el)
    rw [upd_ne nl]
    exact hb
  refine ⟨w.np, fr_at w.fr hl, w.pt.at lp, fun x hx => ?_, fun a vs h => ?_, w.nd, fun a ds h => ?_, w.sm.fr fx, w.th.fr fx⟩
  · by_cases e : x = l
    · exact ⟨us', by rw [e]; exact upd_same⟩
    · obtain ⟨zs, z⟩ := w.ln x hx
      exact ⟨zs, by rw [upd_ne e]; exact z⟩
  · rcases List.mem_cons.mp h with z | h
    · cases z; exact ⟨lp, hl, upd_same⟩
    · obtain ⟨x, y, z⟩ := w.ls a vs (List.Mem.tail _ h)
      refine ⟨x, y, ?_⟩
      rw [upd_ne (fun e => ?_)]
      · exact z
      · have nd := w.nd
        rw [List.map_cons, List.nodup_cons] at nd
        exact nd.1 (List.mem_map.mpr ⟨_, h, e⟩)
  · obtain ⟨x, y⟩ := w.ts a ds h
    exact ⟨x.fr fx, y⟩
end BW
theorem tlst_run {ta : TA} {σ : L2.St} {H : Hp} {Q : VK} (h : ta σ H fun xs H1 => xs.length ≤ sizeLine ∧ ∀ p, H1 p = none → Q (.ref p) (upd H1 p (.lst xs))) : tLst ta σ H Q := h
theorem oq_cat {ds : List PyData} (h : ∀ x ∈ ds, Oq x 1 400) (l : ds.length ≤ 170) : Oq (.tuple ds) 2 70000 ∧ Oq (.list ds) 2 70000 := ⟨(Oq.tup h l).mono (by decide) (by decide), (Oq.lst h l).mono (by decide) (by decide)⟩
section
variable {K : PySem.W.Frag} {E : Addr → Prop} {p : Addr} {H : Hp} {L : List (Addr × List V)} {M : List (Addr × List PyData)} {qs vs : List V} {n m : Nat} {G : Hp} {σ : L2.St} {Q : VK}
theorem all_app {P : PyData → Prop} {ds es : List PyData} (h : ∀ x ∈ ds, P x) (t : ∀ x ∈ es, P x) : ∀ x ∈ ds ++ es, P x := fun x hx => (List.mem_append.mp hx).elim (h x) (t x)
theorem all_one {P : PyData → Prop} {d : PyData} (h : P d) : ∀ x ∈ [d], P x := fun x hx => by rw [List.mem_singleton.mp hx]; exact h
/-- a + (x,) + b -/
theorem mid_ok {tX tB : TE} {i : Nat} {a : Addr} {ds : List PyData} (w : BW E p H L M qs vs n G) (h9 : σ[i]? = some (some (.ref a))) (ma : (a, ds) ∈ M)
    (hX : ∀ R : VK, (∀ v d G1, BW E p H L M qs vs m G1 → Dq E G1 v d → Oq d 1 400 → R v G1) → tX σ G R)
    (hB : ∀ (G1 : Hp) (R : VK), BW E p H L M qs vs m G1 → (∀ b es G2, Same G1 G2 → BW E p H L M qs vs m G2 → TupD E G2 b es → (∀ x ∈ es, Oq x 1 400) → es.length ≤ 81 → R (.ref b) G2) → tB σ G1 R)
    (q : ∀ c G2, BW E p H L M qs (.ref c :: vs) m G2 → Q (.ref c) G2) : tOp (rCatA K) (tOp (rCatA K) (tVar i) (tTup (tCons tX tNil))) tB σ G Q := by
  refine ⟨.ref a, h9, hX _ fun v d G1 w1 qv ov => ⟨by show 1 ≤ sizeLine; decide, fun c nc => ?_⟩⟩
  have s := same_upd (o := .tup [v]) nc
  have w2 := w1.same s
  obtain ⟨ta, oa, la⟩ := w2.ts a ds ma
  refine cat_ok w2.ln.out ta ⟨_, upd_same, w1.ln.out c nc, .cons (qv.fr (FrX.same s)) .nil⟩ (by rw [List.length_singleton]; omega) fun c3 G3 s3 T3 => ?_
  have w3 := w2.same s3
  refine hB G3 _ w3 fun b es G5 s5 w5 tb ob lb => ?_
  refine cat_ok w5.ln.out (T3.fr (FrX.same s5)) tb (by rw [List.length_append, List.length_singleton]; omega) fun c4 G4 s4 T4 => ?_
  exact q c4 G4 ((w5.same s4).put T4.dq (oq_cat (all_app (all_app oa (all_one ov)) ob) (by rw [List.length_append, List.length_append, List.length_singleton]; omega)).1)
theorem var_ok {j : Nat} {b : Addr} {es : List PyData} (h10 : σ[j]? = some (some (.ref b))) (mb : (b, es) ∈ M) : ∀ (G1 : Hp) (R : VK), BW E p H L M qs vs m G1 → (∀ b es G2, Same G1 G2 → BW E p H L M qs vs m G2 → TupD E G2 b es → (∀ x ∈ es, Oq x 1 400) → es.length ≤ 81 → R (.ref b) G2) → tVar j σ G1 R := fun G1 R w h => by
  obtain ⟨tb, ob, lb⟩ := w.ts b es mb
  exact ⟨.ref b, h10, h b es G1 (Same.refl _) w tb ob lb⟩
/-- a + b -/
theorem two_ok {i j : Nat} {a b : Addr} {ds es : List PyData} (w : BW E p H L M qs vs n G) (h9 : σ[i]? = some (some (.ref a))) (h10 : σ[j]? = some (some (.ref b))) (ma : (a, ds) ∈ M) (mb : (b, es) ∈ M)
    (q : ∀ c G2, BW E p H L M qs (.ref c :: vs) n G2 → TupD E G2 c (ds ++ es) → (∀ x ∈ ds ++ es, Oq x 1 400) → (ds ++ es).length ≤ 162 → Q (.ref c) G2) : tOp (rCatA K) (tVar i) (tVar j) σ G Q := by
  obtain ⟨ta, oa, la⟩ := w.ts a ds ma
  obtain ⟨tb, ob, lb⟩ := w.ts b es mb
  refine ⟨.ref a, h9, .ref b, h10, cat_ok w.ln.out ta tb (by omega) fun c4 G4 s4 T4 => ?_⟩
  exact q c4 G4 ((w.same s4).put T4.dq (oq_cat (all_app oa ob) (by rw [List.length_append]; omega)).1) T4 (all_app oa ob) (by rw [List.length_append]; omega)
theorem tupof_ok {i : Nat} {l : Addr} {ws : List V} (w : BW E p H L M qs vs n G) (hi : σ[i]? = some (some (.ref l))) (ml : (l, ws) ∈ L) (sub : ∀ v ∈ ws, v ∈ qs) (few : ws.length ≤ 81)
    (q : ∀ c G2, BW E p H L M qs (.ref c :: vs) n G2 → Q (.ref c) G2) : tCB (rTupOf K) (tCons (tVar i) tNil) σ G Q := by
  obtain ⟨_, _, hl⟩ := w.ls l ws ml
  refine ⟨.ref l, hi, l, ws, rfl, .inl ⟨.inl (.inl hl), fun t nt => ?_⟩⟩
  have s := same_upd (o := .tup ws) nt
  obtain ⟨ds, da, oa⟩ := Thgs.all (E := E) (H := G) (vs := ws) fun v hv => w.sm v (sub v hv)
  have := da.len
  exact q t _ ((w.same s).put (.tup upd_same (w.ln.out t nt) (da.fr (FrX.same s))) (oq_cat oa (by omega)).1)
theorem backT_ok {i : Nat} {a : Addr} {ds : List PyData} (w : BW E p H L M qs vs n G) (hi : σ[i]? = some (some (.ref a))) (ma : (a, ds) ∈ M) (q : ∀ c G2, BW E p H L M qs (.ref c :: vs) n G2 → Q (.ref c) G2) : tBackT K (tVar i) σ G Q := by
  obtain ⟨ta, oa, la⟩ := w.ts a ds ma
  exact back_ok w.ln.out ta (fun R h => ⟨.ref a, hi, h⟩) fun c G' s T => q c G' ((w.same s).put T.dq (oq_cat (fun x hx => oa x (List.mem_reverse.mp hx)) (by rw [List.length_reverse]; omega)).1)
theorem lof_ok {i : Nat} {a : Addr} {ds : List PyData} (w : BW E p H L M qs vs n G) (hi : σ[i]? = some (some (.ref a))) (ma : (a, ds) ∈ M) (q : ∀ c G2, BW E p H L M qs (.ref c :: vs) n G2 → Q (.ref c) G2) : tCB (rListS K) (tCons (tVar i) tNil) σ G Q := by
  obtain ⟨⟨ys, ey, ny, dy⟩, oa, la⟩ := w.ts a ds ma
  refine ⟨.ref a, hi, a, ys, rfl, .inl (.inl ey), fun l nl yl => ?_⟩
  have s := same_upd (o := .lst ys) nl
  exact q l _ ((w.same s).put (.lst upd_same (w.ln.out l nl) yl (dy.fr (FrX.same s))) (oq_cat oa (by omega)).2)
end
section
variable {P : Program} {w : World} {K : PySem.W.Frag} {mg : Str → Option Value} {base : Heap}
theorem scMixed : FnScope ["_law_pot_here", "_law_some", "_law_left", "_law_turn"] ["_law_pot_here", "_law_some"] (defScope sMixed) := ⟨rfl, rfl, rfl, by decide +kernel, rfl, by decide +kernel, by decide +kernel⟩
theorem perm_erase {α : Type} : ∀ {l : List α} {k : Nat} (h : k < l.length), l.Perm (l[k] :: l.eraseIdx k)
  | x :: r, 0, _ => List.Perm.refl _
  | x :: r, k + 1, h => (List.Perm.cons x (perm_erase (l := r) (k := k) (by simpa using h))).trans (List.Perm.swap _ _ _)
/-- mixed: some list of the same things, in some order -/
def spMixed (K : PySem.W.Frag) : Sp := fun vs H Q _ => ∃ (p a : Addr) (xs : List V) (n : Nat), vs = [.ref p, .ref a] ∧ PotAt H p n ∧ n + xs.length < 1000000 ∧ a ≠ p ∧ SqL K H a xs ∧
  ∀ r ys H', Fr p H H' → PotAt H' p (n + xs.length) → H r = none → H' r = some (.lst ys) → ys.Perm xs → Q (.ref r) H'
theorem ok_mixed {f fT : Addr} {fd fdT : FuncData} {k : Nat} (F : Fun K "_law_mixed" "_law_mixed" sMixed f fd) (FT : Fun K "_law_take" "_law_take" sTake fT fdT) (bT : Binds K fdT ["_law_pot_here", "_law_many"] []) (gT : mg "_law_take" = some (.ref fT)) (ml : mg "len" = none) (mli : mg "list" = none) (mr : mg "range" = none) :
    FnOk P w K mg base CX0 (k + 2) f fd ["_law_pot_here", "_law_some"] (spMixed K) := by
  have GT : FnOk P w K mg base CX0 (k + 1) fT fdT ["_law_pot_here", "_law_many"] spTake := ok_take FT
  refine F.ok scMixed (fun vs H Q E h => ?_) (fun cdv A outer s H vs Q E hr h => ?_)
  · obtain ⟨p, a, xs, n, rfl, _⟩ := h
    rfl
  · obtain ⟨p, a, xs, n, rfl, hP, hn, hap, hS, q⟩ := h
    refine ⟨_, pss_cons (ps_set (i := 2) scMixed.nd rfl (.inr rfl) (pe_callTy call_list_of (by rfl) mli (by decide +kernel) (pa_cons (pv 1) pa_nil)))
      (pss_one (ps_ret (pe_lc (own := [("_law_turn", 3)]) (g := gName 3) (tt := tYes) (te := tBM K "list" rPopAt (tVar 2) (tCons (tCall spTake [] E0 (tCons (tVar 0) (tCons (tCB (rLen K) (tCons (tVar 2) tNil)) tNil))) tNil)) rfl scMixed.nd (pi_range1 (by rfl) mr (pa_cons (pe_callB call_len_seq (by rfl) ml PySem.boot_len (pa_cons (pv 1) pa_nil)) pa_nil))
        (blkOk_by (own := [("_law_turn", 3)]) (N := ["_law_pot_here", "_law_some", "_law_left", "_law_turn"]) (sc := defScope sMixed) (by decide +kernel))
        (fun _ _ _ _ _ => pg_name (i := 3) scMixed.nd rfl (Or.inl rfl)) (fun _ _ _ _ _ => pts_nil)
        (fun _ _ _ _ _ => pe_bm PySem.F.plainAttrs_list PySem.F.slot_list_pop PySem.F.type_list_pop mt_popAt (pv 2)
          (pa_cons (pe_call GT hr (by rfl) gT FT.kp bT .nil pass0 (pa_cons (pv 0) (pa_cons (pe_callB call_len_seq (by rfl) ml PySem.boot_len (pa_cons (pv 2) pa_nil)) pa_nil))) pa_nil))))), ?_⟩
    refine ⟨.ref a, rfl, a, _, rfl, .inl hS, fun l nl => ?_⟩
    have npl : p ≠ l := by
      obtain ⟨_, _, _, hp, _⟩ := hP
      exact ne_of_none hp nl
    have hSl : SqL K (upd H l (.lst xs)) a xs := (same_upd nl).seq hS
    refine ⟨.ref a, rfl, a, xs, rfl, .inl hSl, (xs.length : Int), rfl, by omega, by omega, fun D nD => ?_⟩
    have nDl : l ≠ D := ne_of_none upd_same nD
    have nDp : p ≠ D := by
      obtain ⟨_, _, _, hp, _⟩ := hP
      exact ne_of_none (by rw [upd_ne npl]; exact hp) nD
    have nHD : H D = none := by
      rw [upd_ne nDl.symm] at nD
      exact nD
    refine lc_range (lo := 0) (n := xs.length) (fun i H3 => ∃ rem acc, H3 l = some (.lst rem) ∧ H3 D = some (.lst acc) ∧ (acc ++ rem).Perm xs ∧ acc.length = i ∧ Fr p H H3 ∧ PotAt H3 p (n + i)) ?_ ?_ ?_
    · refine ⟨xs, [], ?_, upd_same, List.Perm.refl _, rfl, ?_, ?_⟩
      · rw [upd_ne nDl]
        exact upd_same
      · exact Fr.trans (Fr.new nl) (Fr.new nD)
      · obtain ⟨g, c, t, hp, h⟩ := hP
        refine ⟨g, c, t, ?_, h⟩
        rw [upd_ne nDp, upd_ne npl]
        exact hp
    · rintro i H3 hi ⟨rem, acc, hl, hD, hper, hacc, fr, hP3⟩
      have hlen : acc.length + rem.length = xs.length := by
        have := hper.length_eq
        rw [List.length_append] at this
        exact this
      have hSr : SqL K H3 l rem := .inl (.inl hl)
      refine ⟨rfl, .ref l, rfl, .inl ⟨rfl, _, hSr⟩, .ref p, rfl, .ref l, rfl, l, rem, rfl, .inl hSr, p, _, n + i, rfl, hP3, by omega, by omega, by omega, fun d H4 fr4 hP4 d0 d1 => ?_⟩
      have hd : d.toNat < rem.length := by omega
      have hl4 : H4 l = some (.lst rem) := fr4 _ _ npl.symm hl
      have hD4 : H4 D = some (.lst acc) := fr4 _ _ nDp.symm hD
      refine ⟨l, rem, d, d.toNat, rem[d.toNat], rfl, rfl, hl4, by omega, by omega, seqIndex_of d0 d1, List.getElem?_eq_getElem hd, acc, ?_, ?_, ?_⟩
      · rw [upd_ne nDl.symm]
        exact hD4
      · exact Nat.lt_of_lt_of_le (show acc.length < 1000000 by omega) (by decide)
      · refine ⟨rem.eraseIdx d.toNat, acc ++ [rem[d.toNat]], ?_, upd_same, ?_, ?_, ?_, ?_⟩
        · rw [upd_ne nDl]
          exact upd_same
        · rw [List.append_assoc]
          refine List.Perm.trans (List.Perm.append_left acc ?_) hper
          exact (perm_erase hd).symm
        · rw [List.length_append, hacc]
          rfl
        · intro b o nb e
          have b1 : b ≠ D := ne_of_none e nHD
          have b2 : b ≠ l := ne_of_none e nl
          rw [upd_ne b1, upd_ne b2]
          exact fr4 _ _ nb (fr _ _ nb e)
        · obtain ⟨g, c, t, hp, h⟩ := hP4
          refine ⟨g, c, t, ?_, h⟩
          rw [upd_ne nDp, upd_ne npl]
          exact hp
    · rintro H3 ⟨rem, acc, hl, hD, hper, hacc, fr, hP3⟩
      have hlen : acc.length + rem.length = xs.length := by
        have := hper.length_eq
        rw [List.length_append] at this
        exact this
      have hrem : rem = [] := List.eq_nil_of_length_eq_zero (by omega)
      subst hrem
      rw [List.append_nil] at hper
      exact q D acc H3 fr hP3 nHD hD hper
end
end C2

namespace C2
set_option Elab.async false
set_option linter.all false
set_option maxRecDepth 100000
set_option maxHeartbeats 1000000
open PySem PySem.Spec PyProof.Rows L2 HT
theorem oq_pair {x y : PyData} {dp wt : Nat} (hx : Oq x dp wt) (hy : Oq y dp wt) : Oq (.tuple [x, y]) (dp + 1) ((wt + 1) * 2) := Oq.tup (fun d hd => by
  rcases List.mem_cons.mp hd with rfl | hd
  · exact hx
  · rw [List.mem_singleton.mp hd]; exact hy) (by show 2 ≤ 2; decide)
theorem oq_pairL {x y : PyData} {dp wt : Nat} (hx : Oq x dp wt) (hy : Oq y dp wt) : Oq (.list [x, y]) (dp + 1) ((wt + 1) * 2) := Oq.lst (fun d hd => by
  rcases List.mem_cons.mp hd with rfl | hd
  · exact hx
  · rw [List.mem_singleton.mp hd]; exact hy) (by show 2 ≤ 2; decide)
theorem oq_dP {a b : Nat} {q : Int × Int} (h : InAB a b q) (a9 : a ≤ 9) (b9 : b ≤ 9) : Oq (dP q) 1 204 := by
  obtain ⟨⟨h1, h2⟩, h3, h4⟩ := h
  exact oq_pair (oq_int h1 (by omega)) (oq_int h3 (by omega))
theorem shaped_pairs (ps : List (Int × Int)) : SeqAt.shaped (.tuple (ps.map dP)) = true := by
  unfold SeqAt.shaped
  rw [PyData.canLay0, dPs_lay, Bool.true_and]
  have := dPs_depth ps
  refine decide_eq_true ?_
  rw [PyData.depth]
  omega
section
variable {P : Program} {w : World} {K : PySem.W.Frag} {mg : Str → Option Value} {base : Heap}
abbrev NBe : List Str := ["_law_pot_here", "_law_a", "_law_b", "_law_found", "_law_odd", "_law_one", "_law_at", "_law_other", "_law_swapped", "_law_ahead", "_law_behind", "_law_some"]
theorem scBent : FnScope NBe ["_law_pot_here", "_law_a", "_law_b", "_law_found"] (defScope sBent) := ⟨rfl, rfl, rfl, by decide +kernel, rfl, by decide +kernel, by decide +kernel⟩
def teOdd : TE := tTup (tCons (tVar 5) tNil)
def tOdds : TE := tLst (tCons (tC V.non) (tCons (tC (V.bl true)) (tCons (tC (V.int 0)) (tCons (tC (V.str "")) (tCons (tTup tNil) (tCons (tLstS tNil) (tCons tDNewK (tCons (tTup (tCons (tVar 1) (tCons (tC (V.int 0)) tNil))) (tCons (tTup (tCons (tC (V.int 0)) (tCons (tVar 2) tNil))) (tCons (tTup (tCons (tUn (rU fun i => V.int (-i)) (tC (V.int 1))) (tCons (tC (V.int 0)) tNil))) (tCons (tTup (tCons (tC (V.int 0)) tNil)) (tCons (tTup (tCons (tC (V.int 0)) (tCons (tC (V.int 0)) (tCons (tC (V.int 0)) tNil)))) (tCons (tTup (tCons (tC (V.int 0)) (tCons (tC (V.bl false)) tNil))) (tCons (tLstS (tCons (tC (V.int 0)) (tCons (tC (V.int 0)) tNil))) tNil))))))))))))))
theorem odds_ok {σ : L2.St} {G : Hp} {Q : VK} {N : Addr → Prop} {a b : Nat} (h1 : σ[1]? = some (some (.int (a : Int)))) (h2 : σ[2]? = some (some (.int (b : Int)))) (a9 : a ≤ 9) (b9 : b ≤ 9) (lN : LstN N G)
    (q : ∀ l os G', Same G G' → G l = none → G' l = some (.lst os) → Thgs N G' os 1 400 → os.length = 14 → Q (.ref l) G') : tOdds σ G Q := by
  refine ⟨by decide, fun a1 m1 => ⟨by decide, fun a2 m2 y2 => fun a3 m3 => ⟨.int (a : Int), h1, by show 2 ≤ sizeLine; decide, fun a4 m4 => ⟨.int (b : Int), h2, by show 2 ≤ sizeLine; decide, fun a5 m5 => ⟨1, rfl, by show 2 ≤ sizeLine; decide, fun a6 m6 => ⟨by show 1 ≤ sizeLine; decide, fun a7 m7 => ⟨by show 3 ≤ sizeLine; decide, fun a8 m8 => ⟨by show 2 ≤ sizeLine; decide, fun a9' m9 => ⟨by show 2 ≤ sizeLine; decide, fun a10 m10 y10 => ⟨by show 14 ≤ sizeLine; decide, fun l1 n1 => ?_⟩⟩⟩⟩⟩⟩⟩⟩⟩⟩
  have s1 := same_upd (o := .tup []) m1
  have s2 := same_upd (o := .lst []) m2
  have s3 := same_upd (o := .dK []) m3
  have s4 := same_upd (o := .tup [.int (a : Int), .int 0]) m4
  have s5 := same_upd (o := .tup [.int 0, .int (b : Int)]) m5
  have s6 := same_upd (o := .tup [.int (-1), .int 0]) m6
  have s7 := same_upd (o := .tup [.int 0]) m7
  have s8 := same_upd (o := .tup [.int 0, .int 0, .int 0]) m8
  have s9 := same_upd (o := .tup [.int 0, .bl false]) m9
  have s10 := same_upd (o := .lst [.int 0, .int 0]) m10
  have s11 := same_upd (o := .lst [.non, .bl true, .int 0, .str "", .ref a1, .ref a2, .ref a3, .ref a4, .ref a5, .ref a6, .ref a7, .ref a8, .ref a9', .ref a10]) n1
  have L1 := lN.same s1
  have L2 := L1.same s2
  have L3 := L2.same s3
  have L4 := L3.same s4
  have L5 := L4.same s5
  have L6 := L5.same s6
  have L7 := L6.same s7
  have L8 := L7.same s8
  have L9 := L8.same s9
  have r9 := s10.trans s11
  have r8 := s9.trans r9
  have r7 := s8.trans r8
  have r6 := s7.trans r7
  have r5 := s6.trans r6
  have r4 := s5.trans r5
  have r3 := s4.trans r4
  have r2 := s3.trans r3
  have r1 := s2.trans r2
  have r0 := s1.trans r1
  have up : ∀ {d : PyData} {dp wt : Nat}, Oq d dp wt → dp ≤ 1 → wt ≤ 400 → Oq d 1 400 := fun h a b => h.mono a b
  have z0 : Oq (.int 0) 0 101 := oq_int (by decide) (by decide)
  have e0 : Oq (.tuple []) 1 0 := Oq.tup (ds := []) (dp := 0) (wt := 101) (n := 0) (fun d hd => nomatch hd) (by decide)
  have e1 : Oq (.list []) 1 0 := Oq.lst (ds := []) (dp := 0) (wt := 101) (n := 0) (fun d hd => nomatch hd) (by decide)
  have z1 : Oq (.tuple [.int 0]) 1 102 := Oq.tup (dp := 0) (wt := 101) (n := 1) (fun d hd => by rw [List.mem_singleton.mp hd]; exact z0) (by decide)
  have z3 : Oq (.tuple [.int 0, .int 0, .int 0]) 1 306 := Oq.tup (dp := 0) (wt := 101) (n := 3) (fun d hd => by
    rcases List.mem_cons.mp hd with rfl | hd
    · exact z0
    rcases List.mem_cons.mp hd with rfl | hd
    · exact z0
    · rw [List.mem_singleton.mp hd]; exact z0) (by show 3 ≤ 3; decide)
  have n0 := same_none (s1.trans (s2.trans (s3.trans (s4.trans (s5.trans (s6.trans (s7.trans (s8.trans (s9.trans s10))))))))) n1
  refine q l1 _ _ (s1.trans r1) n0 upd_same ?_ rfl
  exact .cons .non (up oq_non (by decide) (by decide)) (.cons (.bl _) (up (oq_bl _) (by decide) (by decide)) (.cons (.int _) (up z0 (by decide) (by decide)) (.cons (.str _) (up oq_void (by decide) (by decide))
    (.cons (.tup (r1 _ _ upd_same) (lN.out a1 m1) .nil) (up e0 (by decide) (by decide))
    (.cons (.lst (r2 _ _ upd_same) (L1.out a2 m2) y2 .nil) (up e1 (by decide) (by decide))
    (.cons (.dic (kvs := []) (r3 _ _ upd_same) (L2.out a3 m3) .nil) (up Oq.dic0 (by decide) (by decide))
    (.cons (.tup (r4 _ _ upd_same) (L3.out a4 m4) (.cons (.int _) (.cons (.int _) .nil))) (up (oq_pair (oq_int (v := (a : Int)) (by omega) (by omega)) z0) (by decide) (by decide))
    (.cons (.tup (r5 _ _ upd_same) (L4.out a5 m5) (.cons (.int _) (.cons (.int _) .nil))) (up (oq_pair z0 (oq_int (v := (b : Int)) (by omega) (by omega))) (by decide) (by decide))
    (.cons (.tup (r6 _ _ upd_same) (L5.out a6 m6) (.cons (.int _) (.cons (.int _) .nil))) (up (oq_pair oq_less z0) (by decide) (by decide))
    (.cons (.tup (r7 _ _ upd_same) (L6.out a7 m7) (.cons (.int _) .nil)) (up z1 (by decide) (by decide))
    (.cons (.tup (r8 _ _ upd_same) (L7.out a8 m8) (.cons (.int _) (.cons (.int _) (.cons (.int _) .nil)))) (up z3 (by decide) (by decide))
    (.cons (.tup (r9 _ _ upd_same) (L8.out a9' m9) (.cons (.int _) (.cons (.bl _) .nil))) (up (oq_pair z0 (oq_bl _)) (by decide) (by decide))
    (.cons (.lst (s11 _ _ upd_same) (L9.out a10 m10) y10 (.cons (.int _) (.cons (.int _) .nil))) (up (oq_pairL z0 z0) (by decide) (by decide)) .nil)))))))))))))
theorem lc_odd {σ : L2.St} {G : Hp} {Q : VK} {N : Addr → Prop} {l : Addr} {os : List V} (h4 : σ[4]? = some (some (.ref l))) (hs : ∀ v, wipe ((wipe σ [5]).set 5 (some v)) [5] = wipe σ [5]) (h5 : ∀ v, ((wipe σ [5]).set 5 (some v))[5]? = some (some v)) (hl : G l = some (.lst os)) (to : Thgs N G os 1 400) (lo : os.length = 14) (lN : LstN N G)
    (q : ∀ D us G', Same G G' → G' D = some (.lst us) → us.length = 14 → Thgs N G' us 2 70000 → Q (.ref D) G') : tLc (iList K (tVar 4)) (gName 5) tYes teOdd [5] σ G Q := by
  refine ⟨_, h4, l, rfl, ⟨_, .inl (.inl hl)⟩, fun D nD => ?_⟩
  have nlD : l ≠ D := ne_of_none hl nD
  refine lc_list (xs := os) (fun m G' => Same G G' ∧ LstN (fun a => N a ∨ a = D) G' ∧ ∃ us, G' D = some (.lst us) ∧ us.length = m ∧ Thgs (fun a => N a ∨ a = D) G' us 2 70000) ⟨same_upd nD, (lN.same (same_upd nD)).more upd_same, [], upd_same, rfl, .nil⟩ (fun m G' _ h => .inl (.inl (h.1 _ _ hl))) ?_ ?_
  · rintro m v G' hv ⟨sm, LD, us, hD, lu, tu⟩
    refine ⟨hs _, ?_⟩
    simp only [tYes, ↓reduceIte]
    obtain ⟨d, qv, ov⟩ := (to.more nD) v (List.mem_of_getElem? hv)
    have qv' := qv.fr (FrX.same sm)
    refine ⟨v, h5 v, by show 1 ≤ sizeLine; decide, fun c nc => ?_⟩
    have sc := same_upd (o := .tup [v]) nc
    have hDc := sc _ _ hD
    have fu : FrX (fun a => N a ∨ a = D) (upd G' c (.tup [v])) (upd (upd G' c (.tup [v])) D (.lst (us ++ [.ref c]))) := fun b' o' nb hb' => by
      rw [upd_ne (fun z => nb (.inr z))]
      exact hb'
    have tc : Dq (fun a => N a ∨ a = D) (upd G' c (.tup [v])) (.ref c) (.tuple [d]) := .tup upd_same (LD.out c nc) (.cons (qv'.fr (FrX.same sc)) .nil)
    have m14 : m < os.length := (List.getElem?_eq_some_iff.mp hv).1
    refine ⟨us, hDc, Nat.lt_of_lt_of_le (show us.length < 1000 by omega) (by decide), fun b' o' e' => ?_, fun x hx => ?_, us ++ [.ref c], upd_same, by rw [List.length_append, lu]; rfl, ((tu.fr (FrX.same sc)).fr fu).app (.cons (tc.fr fu) ((Oq.tup (n := 1) (all_one ov) (by show 1 ≤ 1; decide)).mono (by decide) (by decide)) .nil)⟩
    · rw [upd_ne (ne_of_none e' nD)]
      exact sc _ _ (sm _ _ e')
    · by_cases e : x = D
      · exact ⟨us ++ [.ref c], by rw [e]; exact upd_same⟩
      · obtain ⟨zs, z⟩ := LD x hx
        exact ⟨zs, by rw [upd_ne e]; exact sc _ _ z⟩
  · rintro G' ⟨sm, LD, us, hD, lu, tu⟩
    exact q D us G' sm hD (by omega) (tu.less fun a h => .inl h)
def spBent : Sp := fun vs H Q _ => ∃ (p T : Addr) (a b n : Nat) (fs : List V) (qs : List (Int × Int)) (N : Addr → Prop), vs = [.ref p, .int (a : Int), .int (b : Int), .ref T] ∧ a ≤ 9 ∧ b ≤ 9 ∧ PotAt H p n ∧ n < 800000 ∧ N p ∧ LstN N H ∧ H T = some (.tup fs) ∧ Prs H fs qs ∧ fs.length ≤ 81 ∧ (∀ q ∈ qs, InAB a b q) ∧ ∀ (v : V) (d : PyData) H', Fr p H H' → PotAt H' p (n + 90) → Dq N H' v d → Oq d 2 70000 → Q v H'
theorem ok_bent {f fT fO fM : Addr} {fd fdT fdO fdM : FuncData} {k : Nat} (F : Fun K "_law_bent" "_law_bent" sBent f fd) (FT : Fun K "_law_take" "_law_take" sTake fT fdT) (FO : Fun K "_law_of" "_law_of" sOf fO fdO) (FM : Fun K "_law_mixed" "_law_mixed" sMixed fM fdM) (bT : Binds K fdT ["_law_pot_here", "_law_many"] []) (bO : Binds K fdO ["_law_pot_here", "_law_some"] []) (bM : Binds K fdM ["_law_pot_here", "_law_some"] [])
    (gT : mg "_law_take" = some (.ref fT)) (gO : mg "_law_of" = some (.ref fO)) (gM : mg "_law_mixed" = some (.ref fM)) (mtup : mg "tuple" = none) (ml : mg "len" = none) (mlist : mg "list" = none) (mr : mg "range" = none) : FnOk P w K mg base CX0 (k + 3) f fd ["_law_pot_here", "_law_a", "_law_b", "_law_found"] spBent := by
  have GT : FnOk P w K mg base CX0 (k + 1) fT fdT ["_law_pot_here", "_law_many"] spTake := ok_take FT
  have GO : FnOk P w K mg base CX0 (k + 2) fO fdO ["_law_pot_here", "_law_some"] (spOf K) := ok_of FO FT bT gT ml
  have GM : FnOk P w K mg base CX0 (k + 2) fM fdM ["_law_pot_here", "_law_some"] (spMixed K) := ok_mixed FM FT bT gT ml mlist mr
  refine F.ok scBent (fun vs H Q E h => ?_) (fun cdv A outer s H vs Q E hr h => ?_)
  · obtain ⟨p, T, a, b, n, fs, qs, N, rfl, _⟩ := h
    rfl
  obtain ⟨p, T, a, b, n, fs, qs, N, rfl, a9, b9, hP, hn, np, lN, hT, prs, l81, inn, q⟩ := h
  have nd := scBent.nd
  refine ⟨_, pss_cons (ps_set (i := 4) nd rfl (.inl rfl) (pe_lst (pa_cons pe_non (pa_cons pe_bl (pa_cons pe_int (pa_cons pe_str (pa_cons (pe_tup pa_nil) (pa_cons (pe_lstS pa_nil) (pa_cons pe_dnewK (pa_cons (pe_tup (pa_cons (pv 1) (pa_cons pe_int pa_nil))) (pa_cons (pe_tup (pa_cons pe_int (pa_cons (pv 2) pa_nil))) (pa_cons (pe_tup (pa_cons (pe_un un_neg pe_int) (pa_cons pe_int pa_nil))) (pa_cons (pe_tup (pa_cons pe_int pa_nil)) (pa_cons (pe_tup (pa_cons pe_int (pa_cons pe_int (pa_cons pe_int pa_nil)))) (pa_cons (pe_tup (pa_cons pe_int (pa_cons pe_bl pa_nil))) (pa_cons (pe_lstS (pa_cons pe_int (pa_cons pe_int pa_nil))) pa_nil))))))))))))))))
      (pss_cons (ps_if (pt_cmpR (op_eqQ hr.units) (pv 3) (pe_tup pa_nil) (nomark _)) (pss_one (ps_ret (pe_call GO (hr.mono (by omega)) (by rfl) gO FO.kp bO .nil pass0 (pa_cons (pv 0) (pa_cons (pe_op op_cat (pv 4) (pe_lc (own := [("_law_one", 5)]) (g := gName 5) (tt := tYes) (te := teOdd) rfl nd (pi_list (pv 4)) (blkOk_by (own := [("_law_one", 5)]) (N := NBe) (sc := defScope sBent) (by decide +kernel)) (fun _ _ _ _ _ => pg_name (i := 5) nd rfl (.inl rfl)) (fun _ _ _ _ _ => pts_nil) (fun _ _ _ _ _ => (pe_tup (pa_cons (pv 5) pa_nil))))) pa_nil))))) pss_nil)
      (pss_cons (ps_par (i := 6) (j := 7) rfl nd rfl rfl (by decide) rfl rfl (pa_cons (pe_call GT (hr.mono (by omega)) (by rfl) gT FT.kp bT .nil pass0 (pa_cons (pv 0) (pa_cons (pe_callB call_len_seq (by rfl) ml PySem.boot_len (pa_cons (pv 3) pa_nil)) pa_nil))) (pa_cons (pe_call GT (hr.mono (by omega)) (by rfl) gT FT.kp bT .nil pass0 (pa_cons (pv 0) (pa_cons (pe_callB call_len_seq (by rfl) ml PySem.boot_len (pa_cons (pv 3) pa_nil)) pa_nil))) pa_nil)) rfl)
      (pss_cons (ps_set (i := 8) nd rfl (.inl rfl) (pe_callTy call_listS (by rfl) mlist (by decide +kernel) (pa_cons (pv 3) pa_nil)))
      (pss_cons (ps_asg (pe_tup (pa_cons (pe_ix ix_tup (pv 3) (pv 7) (fun _ _ => rfl)) (pa_cons (pe_ix ix_tup (pv 3) (pv 6) (fun _ _ => rfl)) pa_nil))) (pg_tup rfl (pgs_cons (pg_sub (pv 8) (pv 6) set_list) (pgs_cons (pg_sub (pv 8) (pv 7) set_list) pgs_nil))))
      (pss_cons (ps_par3 (i := 5) (j := 9) (l := 10) rfl nd rfl rfl rfl (by decide) (by decide) (by decide) rfl rfl rfl (pa_cons (pe_ix ix_tup (pv 3) (pv 6) (fun _ _ => rfl)) (pa_cons (pe_slice sl_tupA (pv 3) po_none (po_some (pv 6))) (pa_cons (pe_slice sl_tupA (pv 3) (po_some (pe_op op_add (pv 6) pe_int)) po_none) pa_nil))) (by rfl))
      (pss_cons (ps_set (i := 11) nd rfl (.inl rfl) (pe_lst (pa_cons (pe_callTy call_tuple_of (by rfl) mtup (by decide +kernel) (pa_cons (pv 8) pa_nil)) (pa_cons (pe_op op_catA (pv 9) (pv 10)) (pa_cons (pe_op op_catA (pe_op op_catA (pv 9) (pe_tup (pa_cons (pv 5) pa_nil))) (pe_slice sl_tupA (pv 3) (po_some (pv 6)) po_none)) (pa_cons (pe_backT (pv 3)) (pa_cons (pe_callTy call_listS (by rfl) mlist (by decide +kernel) (pa_cons (pv 3) pa_nil)) pa_nil)))))))
      (pss_cons (ps_expr (pe_bm PySem.F.plainAttrs_list PySem.F.slot_list_append PySem.F.type_list_append mt_append (pv 11) (pa_cons (pe_op op_catA (pe_op op_catA (pv 10) (pe_tup (pa_cons (pv 5) pa_nil))) (pv 9)) pa_nil)))
      (pss_cons (ps_expr (pe_bm PySem.F.plainAttrs_list PySem.F.slot_list_extend PySem.F.type_list_extend mt_extend (pv 11) (pa_cons (pe_lst (pa_cons (pe_op op_catA (pe_op op_catA (pv 9) (pe_tup (pa_cons (pe_backT (pv 5)) pa_nil))) (pv 10)) (pa_cons (pe_op op_catA (pe_op op_catA (pv 9) (pe_tup (pa_cons (pe_callTy call_listS (by rfl) mlist (by decide +kernel) (pa_cons (pv 5) pa_nil)) pa_nil))) (pv 10)) (pa_cons (pe_op op_catA (pe_op op_catA (pv 9) (pe_tup (pa_cons (pe_ix ix_tup (pv 3) (pv 7) (fun _ _ => rfl)) pa_nil))) (pv 10)) pa_nil)))) pa_nil)))
      (pss_cons (ps_expr (pe_bm PySem.F.plainAttrs_list PySem.F.slot_list_extend PySem.F.type_list_extend mt_extend (pv 11) (pa_cons (pe_lst (pa_cons (pe_op op_catA (pe_op op_catA (pv 9) (pe_tup (pa_cons (pe_tup (pa_cons (pe_cmpR op_eq (pe_ix ix_tup (pv 5) pe_int (fun _ _ => rfl)) pe_int (nomark _)) (pa_cons (pe_ix ix_tup (pv 5) pe_int (fun _ _ => rfl)) pa_nil))) pa_nil))) (pv 10)) (pa_cons (pe_op op_catA (pe_op op_catA (pv 9) (pe_tup (pa_cons (pe_call GO (hr.mono (by omega)) (by rfl) gO FO.kp bO .nil pass0 (pa_cons (pv 0) (pa_cons (pv 4) pa_nil))) pa_nil))) (pv 10)) pa_nil))) pa_nil)))
      (pss_cons (ps_expr (pe_bm PySem.F.plainAttrs_list PySem.F.slot_list_append PySem.F.type_list_append mt_append (pv 11) (pa_cons (pe_op op_catA (pe_op op_catA (pv 10) (pv 9)) (pe_tup (pa_cons (pv 5) pa_nil))) pa_nil)))
      (pss_one (ps_ret (pe_call GO (hr.mono (by omega)) (by rfl) gO FO.kp bO .nil pass0 (pa_cons (pv 0) (pa_cons (pe_op op_cat (pe_op op_cat (pv 11) (pe_lst (pa_cons (pe_callTy call_tuple_of (by rfl) mtup (by decide +kernel) (pa_cons (pv 8) pa_nil)) (pa_cons (pe_callTy call_tuple_of (by rfl) mtup (by decide +kernel) (pa_cons (pe_call GM (hr.mono (by omega)) (by rfl) gM FM.kp bM .nil pass0 (pa_cons (pv 0) (pa_cons (pe_callTy call_listS (by rfl) mlist (by decide +kernel) (pa_cons (pv 3) pa_nil)) pa_nil))) pa_nil)) pa_nil)))) (pe_slice sl_list (pv 4) po_none (po_some pe_int))) pa_nil))))))))))))))), ?_⟩
  refine seqAsg (ta := tOdds) ?_
  refine odds_ok (N := N) rfl rfl a9 b9 lN fun lo os H1 s1 nlo hlo tlo llo => ?_
  have nT : ∀ c xs, H c = some (.tup xs) → ¬ N c := fun c xs h => lN.tup h
  have lqs := prs.len
  have w1 : BW N p H [(lo, os)] [(T, qs.map dP)] os [] n H1 := ⟨np, Fr.same s1, hP.same s1, lN.same s1, fun a us h => by
      cases List.mem_singleton.mp h
      exact ⟨hP.ne nlo, nlo, hlo⟩, by simp, fun a ds h => by
      cases List.mem_singleton.mp h
      refine ⟨TupD.fr ⟨fs, hT, nT _ _ hT, prs.dq nT⟩ (FrX.same s1), fun x hx => ?_, by rw [List.length_map]; omega⟩
      obtain ⟨y, hy, rfl⟩ := List.mem_map.mp hx
      exact (oq_dP (inn y hy) a9 b9).mono (by decide) (by decide), tlo, .nil⟩
  have hT1 := s1 _ _ hT
  have prs1 := prs.same s1
  refine ⟨.ref T, rfl, by decide, fun e1 m1 => ?_⟩
  have se := same_upd (o := .tup []) m1
  have w2 := w1.same se
  have hT2 := se _ _ hT1
  have prs2 := prs1.same se
  refine ⟨N, (fun _ => False), _, _, (w2.ts _ _ (List.Mem.head _)).1.dq, .tup upd_same (fun z => z) .nil, shaped_pairs qs, by decide +kernel, _, rfl, ite2 (fun z => ?_) (fun z => ?_)⟩
  · refine ⟨.ref p, rfl, .ref lo, rfl, ?_⟩
    refine lc_odd (N := N) rfl (fun v => rfl) (fun v => rfl) (se _ _ hlo) w2.sm llo w2.ln fun D us G' sD hD lus tus => ?_
    refine ⟨lo, D, os, us, rfl, rfl, sD _ _ (se _ _ hlo), hD, Nat.le_trans (show os.length + us.length ≤ 1000 by omega) (by decide), fun l9 n9 => ?_⟩
    have s9 := same_upd (o := .lst (os ++ us)) n9
    have w3 := (w2.same sD)
    have w4 := w3.same s9
    refine ⟨p, l9, _, n, rfl, w4.pt, by omega, w3.pt.ne n9, .inl (.inl upd_same), by rw [List.length_append]; omega, by rw [List.length_append]; omega, fun v G5 f5 P5 mem => ?_⟩
    obtain ⟨d, qd, od⟩ : ∃ d, Dq N (upd G' l9 (.lst (os ++ us))) v d ∧ Oq d 2 70000 := by
      rcases List.mem_append.mp mem with mem | mem
      · obtain ⟨d, x, y⟩ := w4.sm v mem
        exact ⟨d, x, y.mono (by decide) (by decide)⟩
      · exact (tus.fr (FrX.same s9)) v mem
    exact q v d G5 ((w4.draw f5 P5).fr) (P5.mono (by omega)) (qd.fr (FrX.of f5 np)) od
  have ne : 0 < fs.length := by
    cases qs with
    | nil => exact absurd (by decide +kernel) z
    | cons d ds => rw [lqs]; exact Nat.succ_pos _
  generalize upd H1 e1 (.tup []) = H2 at w2 hT2 prs2 ⊢
  have tT : T ≠ p := fun z => by
    obtain ⟨g, c, u, e, _⟩ := w2.pt
    rw [← z, hT2] at e
    cases e
  refine ⟨.ref p, rfl, .ref T, rfl, T, fs, rfl, .inr (.inl (.inl hT2)), p, _, n, rfl, w2.pt, by omega, by omega, by omega, fun at_ H3 f3 P3 a0 a1 => ?_⟩
  have w3 := w2.draw f3 P3
  have hT3 := f3 _ _ tT hT2
  have prs3 := prs2.keeps (keeps_fr f3 w2.pt)
  refine ⟨.ref p, rfl, .ref T, rfl, T, fs, rfl, .inr (.inl (.inl hT3)), p, _, n + 1, rfl, w3.pt, by omega, by omega, by omega, fun ot H4 f4 P4 o0 o1 => ?_⟩
  have w4 := w3.draw f4 P4
  have hT4 := f4 _ _ tT hT3
  have prs4 := prs3.keeps (keeps_fr f4 w3.pt)
  refine ⟨_, _, rfl, ?_⟩
  have w5 := w4
  have hT5 := hT4
  have prs5 := prs4
  generalize H4 = H5 at w5 hT5 prs5 ⊢
  obtain ⟨ia, rfl⟩ : ∃ ia : Nat, at_ = (ia : Int) := ⟨at_.toNat, by omega⟩
  obtain ⟨io, rfl⟩ : ∃ io : Nat, ot = (io : Int) := ⟨ot.toNat, by omega⟩
  have ha : ia < fs.length := by omega
  have ho : io < fs.length := by omega
  obtain ⟨pa, hpa, ca, eca, hca⟩ := prs5.at_ (List.getElem?_eq_getElem ha)
  have pin := inn pa (List.mem_of_getElem? hpa)
  refine ⟨.ref T, rfl, T, fs, rfl, .inl (.inl hT5), fun sw nsw ysw => ?_⟩
  have ssw := same_upd (o := .lst fs) nsw
  obtain ⟨⟨xs5, e5, n5, da5⟩, oa5, la5⟩ := w5.ts T _ (List.Mem.head _)
  rw [hT5] at e5
  cases e5
  have w6 := (w5.small (da5.thgs oa5)).new (us := fs) nsw
  have hT6 := ssw _ _ hT5
  have hca6 := ssw _ _ hca
  have ix : ∀ {i : Nat} {xs : List V}, i < xs.length → ixN xs.length (i : Int) = some i := fun {i xs} h => by
    unfold ixN
    rw [if_pos (Int.natCast_nonneg _), if_pos (Int.ofNat_lt.mpr h)]
    rfl
  refine ⟨.ref T, rfl, .int (io : Int), rfl, T, fs, _, fs[io], rfl, rfl, .inl (.inl hT6), at_of rfl (List.getElem?_eq_getElem ho), .ref T, rfl, .int (ia : Int), rfl, T, fs, _, fs[ia], rfl, rfl, .inl (.inl hT6), at_of rfl (List.getElem?_eq_getElem ha), by show 2 ≤ sizeLine; decide, fun u2 nu2 => ?_⟩
  have su2 := same_upd (o := .tup [fs[io], fs[ia]]) nu2
  have w7 := w6.same su2
  have hT7 := su2 _ _ hT6
  have hca7 := su2 _ _ hca6
  have hsw7 := (w7.ls sw fs (List.Mem.head _)).2.2
  refine ⟨u2, _, rfl, .inl (.inl upd_same), rfl, fs[io], _, rfl, .ref sw, rfl, .int (ia : Int), rfl, sw, fs, _, ia, rfl, rfl, hsw7, ix ha, ?_⟩
  have w8 := w7.set (us' := fs.set ia fs[io]) (.inr rfl)
  refine ⟨fs[ia], _, rfl, .ref sw, rfl, .int (io : Int), rfl, sw, fs.set ia fs[io], _, io, rfl, rfl, upd_same, ix (by rw [List.length_set]; exact ho), rfl, ?_⟩
  have w9 := w8.set (us' := (fs.set ia fs[io]).set io fs[ia]) (.inr rfl)
  have lws : ((fs.set ia fs[io]).set io fs[ia]).length ≤ 81 := by rw [List.length_set, List.length_set]; exact l81
  have sws : ∀ v ∈ (fs.set ia fs[io]).set io fs[ia], v ∈ fs ++ os := fun v hv => by
    refine List.mem_append_left _ ?_
    rcases List.mem_or_eq_of_mem_set hv with hv | rfl
    · rcases List.mem_or_eq_of_mem_set hv with hv | rfl
      · exact hv
      · exact List.getElem_mem _
    · exact List.getElem_mem _
  have swT : sw ≠ T := fun z => by rw [z, hT5] at nsw; cases nsw
  have swc : sw ≠ ca := fun z => by rw [z, hca] at nsw; cases nsw
  have hT9 : (upd (upd (upd (upd H5 sw (.lst fs)) u2 (.tup [fs[io], fs[ia]])) sw (.lst (fs.set ia fs[io]))) sw (.lst ((fs.set ia fs[io]).set io fs[ia]))) T = some (.tup fs) := by
    rw [upd_ne swT.symm, upd_ne swT.symm]
    exact hT7
  have hca9 : (upd (upd (upd (upd H5 sw (.lst fs)) u2 (.tup [fs[io], fs[ia]])) sw (.lst (fs.set ia fs[io]))) sw (.lst ((fs.set ia fs[io]).set io fs[ia]))) ca = some (.tup [.int pa.1, .int pa.2]) := by
    rw [upd_ne swc.symm, upd_ne swc.symm]
    exact hca7
  generalize upd (upd (upd (upd H5 sw (.lst fs)) u2 (.tup [fs[io], fs[ia]])) sw (.lst (fs.set ia fs[io]))) sw (.lst ((fs.set ia fs[io]).set io fs[ia])) = H9 at w9 hT9 hca9 ⊢
  generalize (fs.set ia fs[io]).set io fs[ia] = ws at lws sws w9
  dsimp only
  let E1 : Addr → Prop := fun a => N a ∨ a = sw
  have oq2 : ∀ x ∈ [PyData.int pa.1, PyData.int pa.2], Oq x 0 101 := fun x hx => by
    obtain ⟨⟨i0, i1⟩, j0, j1⟩ := pin
    rcases List.mem_cons.mp hx with rfl | hx
    · exact oq_int i0 (by omega)
    · rw [List.mem_singleton.mp hx]
      exact oq_int j0 (by omega)
  have w10 := w9.tup (a := ca) (ds := [.int pa.1, .int pa.2]) ⟨_, hca9, w9.ln.tup hca9, .cons (.int _) (.cons (.int _) .nil)⟩ (fun x hx => (oq2 x hx).mono (by decide) (by decide)) (by show 2 ≤ 81; decide)
  refine ⟨.ref T, rfl, .int (ia : Int), rfl, T, fs, _, fs[ia], rfl, rfl, .inl (.inl hT9), at_of rfl (List.getElem?_eq_getElem ha), .ref T, rfl, .int (ia : Int), rfl, (ia : Int), rfl, ?_⟩
  obtain ⟨tT9, oT, lT⟩ := w9.ts T _ (List.Mem.head _)
  refine sl_ok w9.ln.out tT9 fun ah H11 das s11 ta sub1 => ?_
  have w11 := (w10.same s11).tup ta (fun x hx => oT x (sub1.subset hx)) (Nat.le_trans sub1.length_le lT)
  refine ⟨.ref T, rfl, .int (ia : Int), rfl, (ia : Int), 1, rfl, rfl, (ia : Int) + 1, rfl, ?_⟩
  show tNoPart _ H11 _
  unfold tNoPart
  refine sl_ok w11.ln.out (w11.ts T _ (.tail _ (.tail _ (.head _)))).1 fun be H12 dbs s12 tb sub2 => ?_
  have w12 := (w11.same s12).tup tb (fun x hx => oT x (sub2.subset hx)) (Nat.le_trans sub2.length_le lT)
  refine ⟨_, _, _, rfl, ?_⟩
  rw [eca]
  clear w1 w2 w3 w4 w5 w6 w7 w8 w9 w10 w11 su2 ssw hT6 hT7 hca6 hca7 hsw7 hT9 hca9
  have mT : (T, qs.map dP) ∈ [(be, dbs), (ah, das), (ca, [PyData.int pa.1, PyData.int pa.2]), (T, qs.map dP)] := .tail _ (.tail _ (.tail _ (.head _)))
  have mB : (be, dbs) ∈ [(be, dbs), (ah, das), (ca, [PyData.int pa.1, PyData.int pa.2]), (T, qs.map dP)] := .head _
  have mA : (ah, das) ∈ [(be, dbs), (ah, das), (ca, [PyData.int pa.1, PyData.int pa.2]), (T, qs.map dP)] := .tail _ (.head _)
  have mC : (ca, [PyData.int pa.1, PyData.int pa.2]) ∈ [(be, dbs), (ah, das), (ca, [PyData.int pa.1, PyData.int pa.2]), (T, qs.map dP)] := .tail _ (.tail _ (.head _))
  generalize [(be, dbs), (ah, das), (ca, [PyData.int pa.1, PyData.int pa.2]), (T, qs.map dP)] = M at w12 mT mB mA mC
  dsimp only [List.set]
  refine seqAsg (tlst_run (tcons_run ?_))
  refine tupof_ok w12 rfl (List.Mem.head _) sws lws fun c1 G1 g1 => ?_
  refine tcons_run ?_
  refine two_ok g1 rfl rfl mA mB fun c2 G2 g2 _ _ _ => ?_
  have one_ok : ∀ {E' : Addr → Prop} {L' : List (Addr × List V)} {vs' : List V} {m' : Nat} {σ' : L2.St} {G' : Hp}, BW E' p H L' M (fs ++ os) vs' m' G' → σ'[5]? = some (some (.ref ca)) → ∀ R : VK, (∀ v d G1, BW E' p H L' M (fs ++ os) vs' m' G1 → Dq E' G1 v d → Oq d 1 400 → R v G1) → tVar 5 σ' G' R := fun w h5 R h => ⟨.ref ca, h5, h _ _ _ w (w.ts _ _ mC).1.dq ((Oq.tup (n := 2) oq2 (by show 2 ≤ 2; decide)).mono (by decide) (by decide))⟩
  refine tcons_run ?_
  refine mid_ok g2 rfl mA (one_ok g2 rfl) (fun G' R w' h => by
    refine ⟨.ref T, rfl, .int (ia : Int), rfl, (ia : Int), rfl, ?_⟩
    dsimp only
    exact sl_ok w'.ln.out (w'.ts _ _ mT).1 fun b G3 es s3 tb' sub => h b es G3 s3 (w'.same s3) tb' (fun x hx => oT x (sub.subset hx)) (Nat.le_trans sub.length_le lT)) fun c3 G3 g3 => ?_
  refine tcons_run ?_
  refine backT_ok g3 rfl mT fun c4 G4 g4 => ?_
  refine tcons_run ?_
  refine lof_ok g4 rfl mT fun c5 G5 g5 => ?_
  refine ⟨by show 5 ≤ sizeLine; decide, fun sm nsm => ?_⟩
  have g6 := g5.new (us := [.ref c1, .ref c2, .ref c3, .ref c4, .ref c5]) nsm
  generalize upd G5 sm (.lst [.ref c1, .ref c2, .ref c3, .ref c4, .ref c5]) = G6 at g6 ⊢
  show tSeq _ _ _ [some (.ref p), some (.int (a : Int)), some (.int (b : Int)), some (.ref T), some (.ref lo), some (.ref ca), some (.int (ia : Int)), some (.int (io : Int)), some (.ref sw), some (.ref ah), some (.ref be), some (.ref sm)] G6
  have sub6 : ∀ v ∈ [V.ref c1, .ref c2, .ref c3, .ref c4, .ref c5], v ∈ [V.ref c5, .ref c4, .ref c3, .ref c2, .ref c1] := fun v hv => List.mem_reverse.mpr hv
  have l6 : [V.ref c1, .ref c2, .ref c3, .ref c4, .ref c5].length ≤ 5 := by show 5 ≤ 5; decide
  generalize [V.ref c1, .ref c2, .ref c3, .ref c4, .ref c5] = us at g6 sub6 l6
  generalize [V.ref c5, .ref c4, .ref c3, .ref c2, .ref c1] = vs at g6 sub6
  clear g1 g2 g3 g4 g5 w12
  have lt9 : ∀ {us : List V} {j : Nat}, us.length ≤ j → j < 1000 → us.length < sizeLine := fun a b => Nat.lt_of_lt_of_le (show _ < 1000 by omega) (by decide)
  have sub1 : ∀ {us vs : List V} {c : V}, (∀ v ∈ us, v ∈ vs) → ∀ v ∈ us ++ [c], v ∈ c :: vs := fun h v hv => by
    rcases List.mem_append.mp hv with hv | hv
    · exact List.mem_cons_of_mem _ (h v hv)
    · rw [List.mem_singleton.mp hv]; exact List.mem_cons_self
  refine ⟨.ref sm, rfl, .inl ⟨rfl, _, .inl (.inl (g6.ls sm _ (.head _)).2.2)⟩, tcons_run ?_⟩
  refine mid_ok g6 rfl mB (one_ok g6 rfl) (var_ok rfl mA) fun c6 G7 g7 => ?_
  refine ⟨sm, us, .ref c6, rfl, rfl, (g7.ls sm _ (.head _)).2.2, lt9 l6 (by decide), ?_⟩
  have g8 := g7.set (us' := us ++ [.ref c6]) (.inr rfl)
  have sub8 : ∀ v ∈ us ++ [.ref c6], v ∈ (V.ref c6 :: vs) := sub1 sub6
  have l8 : (us ++ [V.ref c6]).length ≤ 6 := by rw [List.length_append, List.length_singleton]; omega
  generalize upd G7 sm (.lst (us ++ [.ref c6])) = G8 at g8 ⊢
  generalize us ++ [.ref c6] = us8 at g8 sub8 l8
  generalize V.ref c6 :: vs = vs8 at g8 sub8
  clear g6 g7
  dsimp only
  refine ⟨.ref sm, rfl, .inl ⟨rfl, _, .inl (.inl (g8.ls sm _ (.head _)).2.2)⟩, tcons_run (tlst_run (tcons_run ?_))⟩
  refine mid_ok g8 rfl mA (fun R h => back_ok g8.ln.out (g8.ts _ _ mC).1 (fun R h => ⟨.ref ca, rfl, h⟩) fun c G' s T => h _ _ _ (g8.same s) T.dq ((Oq.tup (n := 2) (fun x hx => oq2 x (List.mem_reverse.mp hx)) (by show 2 ≤ 2; decide)).mono (by decide) (by decide))) (var_ok rfl mB) fun c7 G9 g9 => ?_
  refine tcons_run ?_
  refine mid_ok g9 rfl mA (fun R h => by
    obtain ⟨⟨ys, ey, ny, dy⟩, _⟩ := g9.ts _ _ mC
    refine ⟨.ref ca, rfl, ca, ys, rfl, .inl (.inl ey), fun l nl yl => ?_⟩
    have s := same_upd (o := .lst ys) nl
    exact h _ _ _ (g9.same s) (.lst upd_same (g9.ln.out l nl) yl (dy.fr (FrX.same s))) ((Oq.lst (n := 2) oq2 (by show 2 ≤ 2; decide)).mono (by decide) (by decide))) (var_ok rfl mB) fun c8 G10 g10 => ?_
  refine tcons_run ?_
  refine mid_ok g10 rfl mA (fun R h => by
    obtain ⟨⟨ys, ey, ny, dy⟩, oo, _⟩ := g10.ts _ _ mT
    have ly := dy.len
    rw [List.length_map] at ly
    have hy : io < ys.length := by omega
    obtain ⟨dd, hd, qd⟩ := dy.at_ (List.getElem?_eq_getElem hy)
    exact ⟨.ref T, rfl, .int (io : Int), rfl, T, ys, _, ys[io], rfl, rfl, .inl (.inl ey), at_of rfl (List.getElem?_eq_getElem hy), h _ _ _ g10 qd (oo _ (List.mem_of_getElem? hd))⟩) (var_ok rfl mB) fun c9 G11 g11 => ?_
  refine ⟨by show 3 ≤ sizeLine; decide, fun b1 nb1 => ?_⟩
  have sb1 := same_upd (o := .lst [.ref c7, .ref c8, .ref c9]) nb1
  have g12 := g11.same sb1
  have le9 : ∀ {us vs : List V} {j : Nat}, us.length + vs.length ≤ j → j < 1000 → us.length + vs.length ≤ sizeLine := fun a b => Nat.le_trans (show _ ≤ 1000 by omega) (by decide)
  refine ⟨sm, b1, us8, _, rfl, rfl, (g12.ls sm _ (.head _)).2.2, upd_same, le9 (j := 20) (by show us8.length + 3 ≤ 20; omega) (by decide), ?_⟩
  have g13 := g12.set (us' := us8 ++ [.ref c7, .ref c8, .ref c9]) (.inr rfl)
  have sub13 : ∀ v ∈ us8 ++ [.ref c7, .ref c8, .ref c9], v ∈ (V.ref c9 :: V.ref c8 :: V.ref c7 :: vs8) := fun v hv => by
    have h := sub1 (c := V.ref c9) (sub1 (c := V.ref c8) (sub1 (c := V.ref c7) sub8)) v
    rw [List.append_assoc, List.append_assoc] at h
    exact h hv
  have l13 : (us8 ++ [V.ref c7, .ref c8, .ref c9]).length ≤ 9 := by rw [List.length_append]; show us8.length + 3 ≤ 9; omega
  generalize upd (upd G11 b1 (.lst [.ref c7, .ref c8, .ref c9])) sm (.lst (us8 ++ [.ref c7, .ref c8, .ref c9])) = G13 at g13 ⊢
  generalize us8 ++ [V.ref c7, .ref c8, .ref c9] = us13 at g13 sub13 l13
  generalize V.ref c9 :: V.ref c8 :: V.ref c7 :: vs8 = vs13 at g13 sub13
  clear g8 g9 g10 g11 g12 sb1 sub8
  dsimp only
  have os14 : 0 < os.length ∧ os.length < 1000000 := by omega
  refine ⟨.ref sm, rfl, .inl ⟨rfl, _, .inl (.inl (g13.ls sm _ (.head _)).2.2)⟩, tcons_run (tlst_run (tcons_run ?_))⟩
  refine mid_ok g13 rfl mA (fun R h => by
    obtain ⟨⟨ys, ey, ny, dy⟩, _⟩ := g13.ts _ _ mC
    cases dy with
    | cons q1 dy =>
    cases dy with
    | cons q2 dy =>
    cases dy
    cases q1
    cases q2
    refine ⟨.ref ca, rfl, ca, _, 0, .int pa.1, rfl, rfl, .inl (.inl ey), rfl, rfl, .ref ca, rfl, ca, _, 1, .int pa.2, rfl, rfl, .inl (.inl ey), rfl, by show 2 ≤ sizeLine; decide, fun l nl => ?_⟩
    have s := same_upd (o := .tup [.bl (decide (V.int pa.1 = V.int 1)), .int pa.2]) nl
    exact h _ _ _ (g13.same s) (.tup upd_same (g13.ln.out l nl) (.cons (.bl _) (.cons (.int _) .nil))) ((oq_pair (oq_bl _) (oq2 _ (.tail _ (.head _)))).mono (by decide) (by decide))) (var_ok rfl mB) fun c10 G14 g14 => ?_
  refine tcons_run ?_
  refine mid_ok g14 rfl mA (fun R h => by
    obtain ⟨lop, _, hlo'⟩ := g14.ls lo os (.tail _ (.tail _ (.head _)))
    refine ⟨.ref p, rfl, .ref lo, rfl, p, lo, os, _, rfl, g14.pt, by omega, lop, .inl (.inl hlo'), os14.1, os14.2, fun v G' f P mem => ?_⟩
    obtain ⟨d, qd, od⟩ := g14.sm v (List.mem_append_right _ mem)
    exact h _ _ _ (g14.draw f P) (qd.fr (FrX.of f g14.np)) od) (var_ok rfl mB) fun c11 G15 g15 => ?_
  refine ⟨by show 2 ≤ sizeLine; decide, fun b2 nb2 => ?_⟩
  have sb2 := same_upd (o := .lst [.ref c10, .ref c11]) nb2
  have g16 := g15.same sb2
  refine ⟨sm, b2, us13, _, rfl, rfl, (g16.ls sm _ (.head _)).2.2, upd_same, le9 (j := 20) (by show us13.length + 2 ≤ 20; omega) (by decide), ?_⟩
  have g17 := g16.set (us' := us13 ++ [.ref c10, .ref c11]) (.inr rfl)
  have sub17 : ∀ v ∈ us13 ++ [.ref c10, .ref c11], v ∈ (V.ref c11 :: V.ref c10 :: vs13) := fun v hv => by
    have h := sub1 (c := V.ref c11) (sub1 (c := V.ref c10) sub13) v
    rw [List.append_assoc] at h
    exact h hv
  have l17 : (us13 ++ [V.ref c10, .ref c11]).length ≤ 11 := by rw [List.length_append]; show us13.length + 2 ≤ 11; omega
  generalize upd (upd G15 b2 (.lst [.ref c10, .ref c11])) sm (.lst (us13 ++ [.ref c10, .ref c11])) = G17 at g17 ⊢
  generalize us13 ++ [V.ref c10, .ref c11] = us17 at g17 sub17 l17
  generalize V.ref c11 :: V.ref c10 :: vs13 = vs17 at g17 sub17
  clear g13 g14 g15 g16 sb2 sub13
  dsimp only
  refine ⟨.ref sm, rfl, .inl ⟨rfl, _, .inl (.inl (g17.ls sm _ (.head _)).2.2)⟩, tcons_run ?_⟩
  refine two_ok g17 rfl rfl mB mA fun c12 G18 g18 T18 o18 l18 => ?_
  refine ⟨.ref ca, rfl, by show 1 ≤ sizeLine; decide, fun b3 nb3 => ?_⟩
  have sb3 := same_upd (o := .tup [.ref ca]) nb3
  have g19 := g18.same sb3
  have oC : Oq (.tuple [.int pa.1, .int pa.2]) 1 400 := (Oq.tup (n := 2) oq2 (by show 2 ≤ 2; decide)).mono (by decide) (by decide)
  refine cat_ok g19.ln.out (T18.fr (FrX.same sb3)) ⟨_, upd_same, g18.ln.out b3 nb3, .cons (g19.ts _ _ mC).1.dq .nil⟩ (by rw [List.length_singleton]; omega) fun c13 G20 s20 T20 => ?_
  have g20 := (g19.same s20).put T20.dq (oq_cat (all_app o18 (all_one oC)) (by rw [List.length_append, List.length_singleton]; omega)).1
  refine ⟨sm, us17, .ref c13, rfl, rfl, (g20.ls sm _ (.head _)).2.2, lt9 l17 (by decide), ?_⟩
  have g21 := g20.set (us' := us17 ++ [.ref c13]) (.inr rfl)
  have sub21 : ∀ v ∈ us17 ++ [.ref c13], v ∈ (V.ref c13 :: V.ref c12 :: vs17) := sub1 fun v hv => List.mem_cons_of_mem _ (sub17 v hv)
  have l21 : (us17 ++ [V.ref c13]).length ≤ 12 := by rw [List.length_append, List.length_singleton]; omega
  generalize upd G20 sm (.lst (us17 ++ [.ref c13])) = G21 at g21 ⊢
  generalize us17 ++ [.ref c13] = us21 at g21 sub21 l21
  generalize V.ref c13 :: V.ref c12 :: vs17 = vs21 at g21 sub21
  clear g17 g18 g19 g20 sb3 sub17
  dsimp only
  refine ⟨.ref p, rfl, .ref sm, rfl, tlst_run (tcons_run ?_)⟩
  refine tupof_ok g21 rfl (.tail _ (.head _)) sws lws fun c14 G22 g22 => ?_
  obtain ⟨⟨ys, ey, ny, dy⟩, oo, ly⟩ := g22.ts _ _ mT
  have lys := dy.len
  refine ⟨.ref p, rfl, .ref T, rfl, T, ys, rfl, .inl (.inl ey), fun lm nlm ylm => ?_⟩
  have slm := same_upd (o := .lst ys) nlm
  have g23 := g22.same slm
  refine ⟨p, lm, ys, _, rfl, g23.pt, by omega, g22.pt.ne nlm, .inl (.inl upd_same), fun r zs G24 f24 P24 nr hr' perm => ?_⟩
  have g24 := g23.draw f24 P24
  refine ⟨r, zs, rfl, .inl ⟨.inl (.inl hr'), fun c15 n15 => ?_⟩⟩
  have s15 := same_upd (o := .tup zs) n15
  obtain ⟨dz, daz, oaz⟩ := Thgs.all (E := _) (H := G24) (vs := zs) (dp := 1) (wt := 400) fun v hv => by
    obtain ⟨d, hd, qd⟩ := dy.nth (perm.mem_iff.mp hv)
    exact ⟨d, (qd.fr (FrX.same slm)).fr (FrX.of f24 g23.np), oo d hd⟩
  have lz := daz.len
  have lzs := perm.length_eq
  have g25 := (g24.same s15).put (.tup upd_same (g24.ln.out c15 n15) (daz.fr (FrX.same s15))) (oq_cat oaz (by omega)).1
  refine ⟨by show 2 ≤ sizeLine; decide, fun l2 nl2 => ?_⟩
  have s2' := same_upd (o := .lst [.ref c14, .ref c15]) nl2
  have g26 := g25.same s2'
  refine ⟨sm, l2, us21, _, rfl, rfl, (g26.ls sm _ (.head _)).2.2, upd_same, le9 (j := 20) (by show us21.length + 2 ≤ 20; omega) (by decide), fun l3 nl3 => ?_⟩
  have s3' := same_upd (o := .lst (us21 ++ [.ref c14, .ref c15])) nl3
  have g27 := g26.same s3'
  refine ⟨.ref lo, rfl, 7, rfl, lo, os, rfl, .inl (.inl (g27.ls lo os (.tail _ (.tail _ (.head _)))).2.2), fun l4 nl4 => ?_⟩
  have s4' := same_upd (o := .lst (cutV os none (some 7))) nl4
  have g28 := g27.same s4'
  have cs : (cutV os none (some 7)).Sublist os := cut_sub os _ _
  have lc := cs.length_le
  have l3' : (us21 ++ [V.ref c14, .ref c15]).length ≤ 14 := by rw [List.length_append]; show us21.length + 2 ≤ 14; omega
  have p3 : 0 < (us21 ++ [V.ref c14, .ref c15]).length := by rw [List.length_append]; show 0 < us21.length + 2; omega
  refine ⟨l3, l4, _, _, rfl, rfl, s4' _ _ upd_same, upd_same, le9 (j := 30) (by omega) (by decide), fun l5 nl5 => ?_⟩
  have s5' := same_upd (o := .lst ((us21 ++ [.ref c14, .ref c15]) ++ cutV os none (some 7))) nl5
  have g29 := g28.same s5'
  refine ⟨p, l5, _, _, rfl, g29.pt, by omega, g28.pt.ne nl5, .inl (.inl upd_same), by rw [List.length_append]; omega, by rw [List.length_append]; omega, fun v G30 f30 P30 mem => ?_⟩
  have g30 := g29.draw f30 P30
  obtain ⟨d, qd, od⟩ : ∃ d, Dq _ G30 v d ∧ Oq d 2 70000 := by
    rcases List.mem_append.mp mem with mem | mem
    · refine g30.th v ?_
      rcases List.mem_append.mp mem with mem | mem
      · exact List.mem_cons_of_mem _ (List.mem_cons_of_mem _ (sub21 v mem))
      · rcases List.mem_cons.mp mem with rfl | mem
        · exact List.mem_cons_of_mem _ List.mem_cons_self
        · rw [List.mem_singleton.mp mem]; exact List.mem_cons_self
    · obtain ⟨d, x, y⟩ := g30.sm v (List.mem_append_right _ (cs.subset mem))
      exact ⟨d, x, y.mono (by decide) (by decide)⟩
  exact q v d G30 g30.fr (P30.mono (by omega)) (qd.less fun a h => .inl (.inl h)) od
end
end C2

namespace C2
set_option Elab.async false
set_option linter.all false
set_option maxRecDepth 100000
set_option maxHeartbeats 1000000
open PySem PySem.Spec PyProof.Rows L2 HT
theorem freshSeq {K : PySem.W.Frag} {p a : Addr} {G G' : Hp} {xs : List V} (h : SqL K G a xs) (n : G p = none) (f : Fr p G G') : SqL K G' a xs := by
  rcases h with (h | ⟨o, h⟩) | h
  · exact .inl (.inl (f _ _ (ne_of_none h n) h))
  · exact .inl (.inr ⟨o, f _ _ (ne_of_none h n) h⟩)
  · exact .inr h
theorem Oq.shows' {E : Addr → Prop} {G : Hp} {v : V} {d : PyData} {dp wt : Nat} (h : Dq E G v d) (o : Oq d dp wt) (hd : dp ≤ 60) (hw : wt ≤ 390000) : Shows G v d.shown := by
  have z := PyData.shown_le 40 (by decide) d o.ls
  have s : 16777216 ≤ sizeLine := by decide
  have w := o.wt
  exact ⟨E, d, h, o.sh, Nat.le_trans o.dp hd, by omega, rfl⟩
section
variable {X : Cx} {k : Nat} {f : Addr} {fd : FuncData} {ps ks : List Str} {sp : Sp} {E : XK} {x : Str} {p pos : Pos} {kws : List Keyword} {tk : TA} {g : List Value → List Value → List Value} {gV : List V → List V → List V}
/-! ### a call by names alone -/
theorem pe_callKW (G : FnOk X.prog X.w X.K X.mg X.base CX0 k f fd ps sp) (room : Room k X.A) (glob : Gl X x) (at_ : X.mg x = some (.ref f)) (kept : PySem.W.keepIn X.K (.ref f) = true) (binds : KBinds X.K fd ps ks g gV) (pass : Passes CX0 X E) (named : PK X kws tk)
    (each : (backToKw pos (keywordEach kws X.env)).all (·.1.isSome) = true := by rfl) (names : (backToKw pos (keywordEach kws X.env)).filterMap (·.1) = ks := by rfl) (plainName : (x == ("__debug__" : Str)) = false := by decide)
    (plain : ((backTo pos (starEach [] X.env)).any (·.1) || (backToKw pos (keywordEach kws X.env)).any (·.1.isNone)) = false := by rfl) : PE X (.Call (.Name x p) [] kws pos) (tCallK sp gV E tNil tk) := by
  constructor
  intro pins s σ H Q I h
  have args := named.run pos pins s σ H _ I h
  refine wpAny_Call_Name_kw (ld_glob I glob at_ (PySem.W.callWith_KW0 (h₀ := X.base) I.ok.mod.kin kept each (thn args ?_) plain) plainName)
  rintro ws s2 ⟨zs, H2, I2, rz, q2⟩
  rw [names]
  exact ⟨I2.kIn, run_fnk (us := []) (vs := []) G room binds pass I2 .nil rz q2⟩
end
def sw2 {α : Type} : List α → List α → List α
  | [], [a, b] => [b, a]
  | _, _ => []
theorem sw2_vals {vs zs : List V} {us ws : List Value} (r : Vals vs us) (rz : Vals zs ws) : Vals (sw2 vs zs) (sw2 us ws) := by
  cases r with
  | cons _ _ => exact .nil
  | nil => cases rz with
    | nil => exact .nil
    | cons r1 r2 => cases r2 with
      | nil => exact .nil
      | cons r3 r4 => cases r4 with
        | nil => exact .cons r3 (.cons r1 .nil)
        | cons _ _ => exact .nil
/-- things drawn -/
theorem lc_thgs {te : TE} {σ : L2.St} {H : Hp} {Q : VK} {p : Addr} {sl n c len dp wt : Nat} {N : Addr → Prop} (hs : ∀ v, wipe ((wipe σ [sl]).set sl (some v)) [sl] = wipe σ [sl]) (hlen : len ≤ 40) (hP : PotAt H p n) (np : N p) (lN : LstN N H)
    (hte : ∀ (j : Nat) (G : Hp) (D : Addr) (R : VK), j < len → H D = none → Fr p H G → PotAt G p (n + c * j) → LstN (fun a => N a ∨ a = D) G → (∀ (v : V) (d : PyData) G', Fr p G G' → PotAt G' p (n + c * (j + 1)) → Dq (fun a => N a ∨ a = D) G' v d → Oq d dp wt → R v G') → te ((wipe σ [sl]).set sl (some (.int (j : Int)))) G R)
    (k : ∀ D vs G, Fr p H G → PotAt G p (n + c * len) → H D = none → D ≠ p → G D = some (.lst vs) → Thgs N G vs dp wt → vs.length = len → Q (.ref D) G) : tLc (iRng1 (tCons (tC (V.int (len : Int))) tNil)) (gName sl) tYes te [sl] σ H Q := by
  refine ⟨(len : Int), rfl, by omega, by omega, fun D nD => ?_⟩
  have nDp : D ≠ p := hP.ne nD
  refine lc_range (lo := 0) (n := len) (fun j G => Fr p H G ∧ PotAt G p (n + c * j) ∧ j ≤ len ∧ ∃ vs, G D = some (.lst vs) ∧ Thgs (fun a => N a ∨ a = D) G vs dp wt ∧ vs.length = j) ⟨Fr.new nD, hP.new nD, Nat.zero_le _, [], upd_same, .nil, rfl⟩ ?_ ?_
  · rintro j G hj ⟨fr, pt, _, vs, hD, tv, hl⟩
    rw [Int.zero_add]
    refine ⟨hs _, ?_⟩
    simp only [tYes, ↓reduceIte]
    refine hte j G D _ hj nD fr pt ((lN.fr fr pt).more hD) fun v d G' f P qv ov => ?_
    have hD' := f _ _ nDp hD
    have fu : FrX (fun a => N a ∨ a = D) G' (upd G' D (.lst (vs ++ [v]))) := fun b' o' nb hb' => by
      rw [upd_ne (fun z => nb (.inr z))]
      exact hb'
    exact ⟨vs, hD', Nat.lt_of_lt_of_le (show vs.length < 1000 by omega) (by decide), fr_at (fr.trans f) nD, P.at nDp, hj, vs ++ [v], upd_same, ((tv.fr (FrX.of f (.inl np))).fr fu).app (.cons (qv.fr fu) ov .nil), by rw [List.length_append, hl]; rfl⟩
  · rintro G ⟨fr, pt, _, vs, hD, tv, hl⟩
    exact k D vs G fr pt nD nDp hD (tv.less fun a h => .inl h) hl

theorem PickAt.frP {G G' : Hp} {t p : Addr} {a b n : Nat} {xs ys : List Int} (h : PickAt G t a b xs ys) (hp : PotAt G p n) (f : Fr p G G') : PickAt G' t a b xs ys := h.keeps (keeps_fr f hp)
theorem ints_dq {E : Addr → Prop} {G : Hp} : ∀ xs : List Int, DqAll E G (xs.map V.int) (xs.map PyData.int)
  | [] => .nil
  | x :: xs => .cons (.int x) (ints_dq xs)
theorem pick_dq {E : Addr → Prop} {G : Hp} {t : Addr} {a b : Nat} {xs ys : List Int} (h : PickAt G t a b xs ys) (no : ∀ c us, G c = some (.tup us) → ¬ E c) : Dq E G (.ref t) (.tuple [.tuple (xs.map .int), .tuple (ys.map .int)]) := by
  obtain ⟨tx, ty, h1, h2, h3, _⟩ := h
  exact .tup h1 (no _ _ h1) (.cons (.tup h2 (no _ _ h2) (ints_dq xs)) (.cons (.tup h3 (no _ _ h3) (ints_dq ys)) .nil))
theorem ints_oq {m : Nat} {xs : List Int} (u : Upto m xs) (hm : m ≤ 40) (l : xs.length ≤ 40) : Oq (.tuple (xs.map PyData.int)) 1 4080 := Oq.tup (dp := 0) (wt := 101) (n := 40) (fun d hd => by
  obtain ⟨x, hx, rfl⟩ := List.mem_map.mp hd
  have := u x hx
  exact oq_int this.1 (by omega)) (by rw [List.length_map]; exact l)
theorem pick_oq {G : Hp} {t : Addr} {a b : Nat} {xs ys : List Int} (h : PickAt G t a b xs ys) (ha : a ≤ 40) (hb : b ≤ 40) : Oq (.tuple [.tuple (xs.map PyData.int), .tuple (ys.map PyData.int)]) 2 8162 := by
  obtain ⟨tx, ty, h1, h2, h3, l1, l2, u1, u2⟩ := h
  exact oq_pair (ints_oq u1 ha (by omega)) (ints_oq u2 hb (by omega))
theorem two_strs (B : Bool) : SeqAt.shaped (.list [.str (PyData.bool B).shown, .str (PyData.bool B).shown]) = true ∧ PyData.eqv (.list [.str (PyData.bool B).shown, .str (PyData.bool B).shown]) (.list [.str (PyData.bool B).shown, .str (PyData.bool B).shown]) = true := by
  cases B <;> exact ⟨by decide +kernel, by decide +kernel⟩
section
variable {P : Program} {w : World} {K : PySem.W.Frag} {mg : Str → Option Value} {base : Heap}
theorem kb_shows {f : Addr} {fd : FuncData} (F : Fun K "shows_order" "shows_order" sShows f fd) : KBinds K fd ["pick", "thing"] ["thing", "pick"] sw2 sw2 := by
  obtain ⟨v1, v2, v3, v4, v5, v6, v7, v8, v9, rfl, _, _⟩ := F.ex
  refine ⟨fun s us ws _ hl => ?_, fun r rz => sw2_vals r rz⟩
  match us, ws, hl with
  | [], [a, b], _ => exact .of_eq rfl
  | [], [], hl => cases hl
  | [], [_], hl => cases hl
  | [], _ :: _ :: _ :: _, hl => cases hl
  | _ :: _, _, hl => cases hl
abbrev NLw : List Str := ["_law_script", "_law_k", "_law_pot_here", "_law_a", "_law_b", "_law_turn", "_law_chosen", "_law_found", "_law_what", "_law_kept", "_law_due", "_law_heard", "_law_again"]
theorem scLaw : FnScope NLw ["_law_script"] (defScope sLaw) := ⟨rfl, rfl, rfl, by decide +kernel, rfl, by decide +kernel, by decide +kernel⟩
def spLaw (K : PySem.W.Frag) : Sp := fun vs H Q _ => ∃ (a : Addr) (ns : List Int), vs = [.ref a] ∧ SqL K H a (ns.map V.int) ∧ ns.length ≤ 63 ∧ ∀ H', Q (.bl true) H'
def teBe : TE := tCall spBent [] E0 (tCons (tVar 2) (tCons (tVar 3) (tCons (tVar 4) (tCons (tVar 7) tNil))))
theorem ok_law {f fPo fT fO fM fPk fS fC fA fIo fOr fBe fSh fSp fR fWa fCm fH fL fW fB fU cB e0 e1 e2 e3 : Addr} {fd fdPo fdT fdO fdM fdPk fdS fdC fdA fdIo fdOr fdBe fdSh fdSp fdR fdWa fdCm fdH fdL fdW fdB fdU : FuncData} (F : Fun K "law" "law" sLaw f fd) (FPo : Fun K "_law_pot" "_law_pot" sDraws fPo fdPo) (FT : Fun K "_law_take" "_law_take" sTake fT fdT) (FO : Fun K "_law_of" "_law_of" sOf fO fdO) (FM : Fun K "_law_mixed" "_law_mixed" sMixed fM fdM) (FPk : Fun K "_law_pick" "_law_pick" sPick fPk fdPk) (FS : Fun K "_law_size" "_law_size" sSize fS fdS) (FC : Fun K "_law_comes" "_law_comes" sLComes fC fdC) (FA : Fun K "_law_wants" "_law_wants" sWants fA fdA) (FIo : Fun K "_law_is_order" "_law_is_order" sIsOrd fIo fdIo) (FOr : Fun K "_law_order" "_law_order" sOrder fOr fdOr) (FBe : Fun K "_law_bent" "_law_bent" sBent fBe fdBe) (FSh : Fun K "shows_order" "shows_order" sShows fSh fdSh) (FSp : Fun K "size_of_pick" "size_of_pick" sSizeP fSp fdSp) (FR : Fun K "is_crossing" "is_crossing" sCross fR fdR) (FWa : Fun K "wanted" "wanted" sWanted fWa fdWa) (FCm : Fun K "comes" "comes" sComes fCm fdCm) (FH : Fun K "has_wire" "has_wire" sHas fH fdH) (FL : Fun K "legs" "legs" sLegs fL fdL) (FW : Fun K "is_whole" "is_whole" sPWhole fW fdW) (FB : Fun K "is_between" "is_between" sBetween fB fdB) (FU : Fun K "is_tuple_of" "is_tuple_of" sTupOf fU fdU)
    (bPo : Binds K fdPo ["_law_script", "_law_k"] []) (bT : Binds K fdT ["_law_pot_here", "_law_many"] []) (bO : Binds K fdO ["_law_pot_here", "_law_some"] []) (bM : Binds K fdM ["_law_pot_here", "_law_some"] []) (bPk : Binds K fdPk ["_law_pot_here", "_law_a", "_law_b"] []) (bS : Binds K fdS ["_law_pot_here", "_law_most"] []) (bC : Binds K fdC ["_law_chosen", "_law_i", "_law_j"] []) (bA : Binds K fdA ["_law_chosen", "_law_i", "_law_j"] []) (bIo : Binds K fdIo ["_law_chosen", "_law_what"] []) (bOr : Binds K fdOr ["_law_pot_here", "_law_chosen"] []) (bBe : Binds K fdBe ["_law_pot_here", "_law_a", "_law_b", "_law_found"] []) (bSh : Binds K fdSh ["pick", "thing"] []) (bSp : Binds K fdSp ["pick"] []) (bR : Binds K fdR ["a", "b", "thing"] []) (bWa : Binds K fdWa ["pick", "i", "j"] []) (bCm : Binds K fdCm ["pick", "i", "j"] []) (bH : Binds K fdH ["pick", "wire"] []) (bL : Binds K fdL ["i", "j"] []) (bW : Binds K fdW ["thing"] []) (bB : Binds K fdB ["thing", "least", "most"] []) (bU : Binds K fdU ["thing", "many"] [])
    (gPo : mg "_law_pot" = some (.ref fPo)) (gT : mg "_law_take" = some (.ref fT)) (gO : mg "_law_of" = some (.ref fO)) (gM : mg "_law_mixed" = some (.ref fM)) (gPk : mg "_law_pick" = some (.ref fPk)) (gS : mg "_law_size" = some (.ref fS)) (gC : mg "_law_comes" = some (.ref fC)) (gA : mg "_law_wants" = some (.ref fA)) (gIo : mg "_law_is_order" = some (.ref fIo)) (gOr : mg "_law_order" = some (.ref fOr)) (gBe : mg "_law_bent" = some (.ref fBe)) (gSh : mg "shows_order" = some (.ref fSh)) (gSp : mg "size_of_pick" = some (.ref fSp)) (gR : mg "is_crossing" = some (.ref fR)) (gWa : mg "wanted" = some (.ref fWa)) (gCm : mg "comes" = some (.ref fCm)) (gH : mg "has_wire" = some (.ref fH)) (gL : mg "legs" = some (.ref fL)) (gW : mg "is_whole" = some (.ref fW)) (gB : mg "is_between" = some (.ref fB)) (gU : mg "is_tuple_of" = some (.ref fU))
    (mi : mg "isinstance" = none) (mint : mg "int" = none) (mbool : mg "bool" = none) (mtup : mg "tuple" = none) (ml : mg "len" = none) (mall : mg "all" = none) (mr : mg "range" = none) (mmin : mg "min" = none) (mmax : mg "max" = none) (mrep : mg "repr" = none) (ma : mg "abs" = none) (ms : mg "sorted" = none) (mlist : mg "list" = none)
    (gBy : mg "BEYOND" = some (.ref cB)) (hBy : Beyond K cB e0 e1 e2 e3) :
    FnG P w K mg base 5 f fd ["_law_script"] (spLaw K) := by
  have GPo : FnOk P w K mg base CX0 1 fPo fdPo ["_law_script", "_law_k"] (spDraws K) := ok_draws FPo ml ma
  have GPk : FnOk P w K mg base CX0 2 fPk fdPk ["_law_pot_here", "_law_a", "_law_b"] spPick := ok_pick FPk FT bT gT mr mtup ms ml
  have GS : FnOk P w K mg base CX0 2 fS fdS ["_law_pot_here", "_law_most"] spSize := ok_size FS FT bT gT
  have GOr : FnOk P w K mg base CX0 3 fOr fdOr ["_law_pot_here", "_law_chosen"] spOrder := ok_order FOr FT FO FA FC bT bO bA bC gT gO gA gC mint mtup ml mall mr
  have GBe : FnOk P w K mg base CX0 3 fBe fdBe ["_law_pot_here", "_law_a", "_law_b", "_law_found"] spBent := ok_bent FBe FT FO FM bT bO bM gT gO gM mtup ml mlist mr
  have GIo : FnOk P w K mg base CX0 3 fIo fdIo ["_law_chosen", "_law_what"] spShows := ok_isord FIo FA FC bA bC gA gC mi mint mbool mtup ml mall
  have GSh : FnOk P w K mg base CX0 4 fSh fdSh ["pick", "thing"] spShows := ok_shows FSh FSp FR FWa FCm FH FL FW FB FU bSp bR bWa bCm bH bL bW bB bU gSp gR gWa gCm gH gL gW gB gU gBy hBy mi mint mbool mtup ml mall
  have kI := kb_shows FSh
  refine okG F scLaw (fun vs H Q E h => ?_) (fun cdv A outer s H vs Q E hgd hr h => ?_)
  · obtain ⟨a, ns, rfl, _⟩ := h
    rfl
  · obtain ⟨z, ns, rfl, hS, hlen, q⟩ := h
    have nd := scLaw.nd
    refine ⟨_, pss_cons (ps_for PassesOwn.never rfl (pi_range1 (by rfl) mr (pa_cons (pe_callB (call_max2 rfl) (by rfl) mmax (by decide +kernel) (pa_cons pe_int (pa_cons (pe_callB (call_min2 rfl) (by rfl) mmin (by decide +kernel) (pa_cons pe_int (pa_cons (pe_callB call_len_seq (by rfl) ml PySem.boot_len (pa_cons (pv 0) pa_nil)) pa_nil))) pa_nil))) pa_nil)) (pg_name (i := 1) nd rfl (.inl rfl)) (pss_cons (ps_set (i := 2) nd rfl (.inr rfl) (pe_call GPo (hr.mono (by decide)) (by rfl) gPo FPo.kp bPo .nil pass0 (pa_cons (pv 0) (pa_cons (pv 1) pa_nil))))
      (pss_cons (ps_asg (pe_call GS (hr.mono (by decide)) (by rfl) gS FS.kp bS .nil pass0 (pa_cons (pv 2) (pa_cons pe_int pa_nil))) (pg_tup rfl (pgs_cons (pg_name (i := 3) nd rfl (.inr rfl)) (pgs_cons (pg_name (i := 4) nd rfl (.inr rfl)) pgs_nil))))
      (pss_one (ps_for PassesOwn.never rfl (pi_range1 (by rfl) mr (pa_cons pe_int pa_nil)) (pg_name (i := 5) nd rfl (.inl rfl)) (pss_cons (ps_set (i := 6) nd rfl (.inl rfl) (pe_call GPk (hr.mono (by decide)) (by rfl) gPk FPk.kp bPk .nil pass0 (pa_cons (pv 2) (pa_cons (pv 3) (pa_cons (pv 4) pa_nil)))))
      (pss_cons (ps_set (i := 7) nd rfl (.inr rfl) (pe_call GOr (hr.mono (by decide)) (by rfl) gOr FOr.kp bOr .nil pass0 (pa_cons (pv 2) (pa_cons (pv 6) pa_nil))))
      (pss_one (ps_for PassesOwn.never rfl (pi_list (pe_op op_cat (pe_lst (pa_cons (pv 7) (pa_cons (pe_backT (pv 7)) pa_nil))) (pe_lc (own := [("_law_again", 12)]) (g := gName 12) (tt := tYes) (te := teBe) rfl nd (pi_range1 (by rfl) mr (pa_cons pe_int pa_nil)) (blkOk_by (own := [("_law_again", 12)]) (N := NLw) (sc := defScope sLaw) (by decide +kernel)) (fun _ _ _ _ _ => pg_name (i := 12) nd rfl (.inl rfl)) (fun _ _ _ _ _ => pts_nil) (fun _ _ _ _ _ => (pe_call GBe (hr.mono (by decide)) (by rfl) gBe FBe.kp bBe .nil pass0 (pa_cons (pv 2) (pa_cons (pv 3) (pa_cons (pv 4) (pa_cons (pv 7) pa_nil))))))))) (pg_name (i := 8) nd rfl (.inl rfl)) (pss_cons (ps_par (i := 9) (j := 10) rfl nd rfl rfl (by decide) rfl rfl (pa_cons (pe_callB (call_reprS hr.units hgd) (by rfl) mrep (by decide +kernel) (pa_cons (pe_tup (pa_cons (pv 6) (pa_cons (pv 8) pa_nil))) pa_nil)) (pa_cons (pe_callB (call_reprS hr.units hgd) (by rfl) mrep (by decide +kernel) (pa_cons (pe_call GIo (hr.mono (by decide)) (by rfl) gIo FIo.kp bIo .nil pass0 (pa_cons (pv 6) (pa_cons (pv 8) pa_nil))) pa_nil)) pa_nil)) rfl)
      (pss_cons (ps_set (i := 11) nd rfl (.inl rfl) (pe_lstS (pa_cons (pe_callB (call_reprS hr.units hgd) (by rfl) mrep (by decide +kernel) (pa_cons (pe_call GSh (hr.mono (by decide)) (by rfl) gSh FSh.kp bSh .nil pass0 (pa_cons (pv 6) (pa_cons (pv 8) pa_nil))) pa_nil)) (pa_cons (pe_callB (call_reprS hr.units hgd) (by rfl) mrep (by decide +kernel) (pa_cons (pe_callKW GSh (hr.mono (by decide)) (by rfl) gSh FSh.kp kI pass0 (pk_cons (pv 8) (pk_cons (pv 6) pk_nil))) pa_nil)) pa_nil))))
      (pss_one (ps_if (PW.pt (pw_or (pt_cmpR (op_neQ hr.units) (pv 11) (pe_lstS (pa_cons (pv 10) (pa_cons (pv 10) pa_nil))) (nomark _)) (pw_or1 (pt_cmpR op_ne (pe_callB (call_reprS hr.units hgd) (by rfl) mrep (by decide +kernel) (pa_cons (pe_tup (pa_cons (pv 6) (pa_cons (pv 8) pa_nil))) pa_nil)) (pv 9) (nomark _))))) (pss_one (ps_ret pe_bl)) pss_nil)))))))))))))
      (pss_one (ps_ret pe_bl)), ?_⟩
    refine ⟨.ref z, rfl, z, _, rfl, .inl hS, 3, _, rfl, 1, _, rfl, _, rfl, ?_, ?_, ?_⟩
    · split <;> split <;> omega
    · rw [List.length_map]
      split <;> split <;> omega
    · refine for_range (lo := 0) (n := _) (fun i σ G => SqL K G z (ns.map V.int) ∧ ∃ y1 y2 y3 y4 y5 y6 y7 y8 y9 y10 y11 y12, σ = [some (.ref z), y1, y2, y3, y4, y5, y6, y7, y8, y9, y10, y11, y12]) ⟨hS, _, _, _, _, _, _, _, _, _, _, _, _, rfl⟩ ?_ ?_
      · rintro i σ G hi ⟨hSG, y1, y2, y3, y4, y5, y6, y7, y8, y9, y10, y11, y12, rfl⟩
        have hi3 : i < 3 := by
          rw [List.length_map] at hi
          revert hi
          split <;> split <;> omega
        rw [Int.zero_add]
        refine ⟨.ref z, rfl, .int (i : Int), rfl, z, ns, i, rfl, hSG, by omega, fun H1 p sm1 np hP1 => ?_⟩
        refine ⟨.ref p, rfl, p, 4, 0, rfl, by decide, by decide, hP1, by decide, fun a b u H2 ha hb f2 P2 hu => ?_⟩
        have a5 : a ≤ 5 := by omega
        have b5 : b ≤ 5 := by omega
        have fr2 : Fr p G H2 := (Fr.same sm1).trans f2
        refine ⟨u, _, rfl, .inl (.inl hu), rfl, _, _, rfl, _, _, rfl, rfl, ?_⟩
        dsimp only
        refine ⟨3, rfl, by decide, by decide, ?_⟩
        refine for_range (lo := 0) (n := 3) (fun m σ G' => Fr p G G' ∧ PotAt G' p (4 + 1300 * m) ∧ ∃ y5 y6 y7 y8 y9 y10 y11, σ = [some (.ref z), some (.int (i : Int)), some (.ref p), some (.int (a : Int)), some (.int (b : Int)), y5, y6, y7, y8, y9, y10, y11, y12]) ⟨fr2, P2, _, _, _, _, _, _, _, rfl⟩ ?_ ?_
        · rintro m σ G3 hm ⟨fr3, P3, y5, y6, y7, y8, y9, y10, y11, rfl⟩
          rw [Int.zero_add]
          refine ⟨.ref p, rfl, .int (a : Int), rfl, .int (b : Int), rfl, p, a, b, 4 + 1300 * m, rfl, by omega, by omega, P3, by omega, fun t xs ys H4 f4 P4 pk => ?_⟩
          refine ⟨.ref p, rfl, .ref t, rfl, p, t, a, b, 4 + 1300 * m + 300, xs, ys, rfl, pk, by omega, by omega, P4, by omega, fun T fs qs G5 f5 P5 hT nT prs lfs inn => ?_⟩
          have pk5 := pk.frP P4 f5
          have F5 : Fr p G G5 := fr3.trans (f4.trans f5)
          have LN5 := lstOne P5
          have ab25 : a * b ≤ 25 := Nat.mul_le_mul a5 b5
          have tT : T ≠ p := fun z => by
            obtain ⟨g, c, u, e, _⟩ := P5
            rw [← z, hT] at e
            cases e
          have no5 : ∀ c us, G5 c = some (.tup us) → ¬ (c = p) := fun c us h => LN5.tup h
          have qT : TupD (· = p) G5 T (qs.map dP) := ⟨fs, hT, no5 _ _ hT, prs.dq no5⟩
          have oT : ∀ x ∈ qs.map dP, Oq x 1 400 := fun x hx => by
            obtain ⟨y, hy, rfl⟩ := List.mem_map.mp hx
            exact (oq_dP (inn y hy) (by omega) (by omega)).mono (by decide) (by decide)
          have lq := prs.len
          refine ⟨.ref T, rfl, tcons_run (back_ok LN5.out qT (fun R h => ⟨.ref T, rfl, h⟩) fun c1 G6 s6 T6 => ⟨by show 2 ≤ sizeLine; decide, fun l1 n1 => ?_⟩)⟩
          have g1 := same_upd (o := .lst [.ref T, .ref c1]) n1
          have sg := s6.trans g1
          have P7 := P5.same sg
          have n1p : l1 ≠ p := (P5.same s6).ne n1
          have th1 : Thgs (· = p) (upd G6 l1 (.lst [.ref T, .ref c1])) [.ref T, .ref c1] 2 70000 := .cons (qT.fr (FrX.same sg)).dq (oq_cat oT (by rw [List.length_map]; omega)).1 (.cons (T6.fr (FrX.same g1)).dq (oq_cat (fun x hx => oT x (List.mem_reverse.mp hx)) (by rw [List.length_reverse, List.length_map]; omega)).1 .nil)
          refine lc_thgs (te := teBe) (sl := 12) (len := 10) (c := 90) (dp := 2) (wt := 70000) (N := (· = p)) (fun v => rfl) (by decide) P7 rfl (lstOne P7) (fun j G8 D R hj nD f8 P8 L8 kk => ⟨.ref p, rfl, .int (a : Int), rfl, .int (b : Int), rfl, .ref T, rfl, p, T, a, b, _, fs, qs, (fun x => x = p ∨ x = D), rfl, by omega, by omega, P8, by omega, .inl rfl, L8, f8 _ _ tT (sg _ _ hT), (prs.same sg).keeps (keeps_fr f8 P7), by omega, inn, fun v d H' f P qv ov => kk v d H' f (P.mono (by omega)) qv ov⟩) fun D bs G8 f8 P8 nD nDp hD tb lb => ?_
          have h1 := f8 _ _ n1p (upd_same (H := G6) (a := l1) (o := .lst [.ref T, .ref c1]))
          refine ⟨l1, D, _, bs, rfl, rfl, h1, hD, Nat.le_trans (show 2 + bs.length ≤ 1000 by omega) (by decide), fun l2 n2 => ?_⟩
          have g2 := same_upd (o := .lst ([.ref T, .ref c1] ++ bs)) n2
          have fA : Fr p G5 (upd G8 l2 (.lst ([.ref T, .ref c1] ++ bs))) := (Fr.same sg).trans (f8.trans (Fr.same g2))
          have P9 := P8.same g2
          have th9 : Thgs (· = p) (upd G8 l2 (.lst ([.ref T, .ref c1] ++ bs))) ([.ref T, .ref c1] ++ bs) 2 70000 := ((th1.fr (FrX.of f8 rfl)).fr (FrX.same g2)).app (tb.fr (FrX.same g2))
          have h9 := upd_same (H := G8) (a := l2) (o := .lst ([.ref T, .ref c1] ++ bs))
          have pk9 := pk5.frP P5 fA
          have F9 := F5.trans fA
          refine ⟨l2, rfl, ⟨_, .inl (.inl h9)⟩, ?_⟩
          generalize upd G8 l2 (.lst ([.ref T, .ref c1] ++ bs)) = G9 at P9 th9 h9 pk9 F9
          generalize [.ref T, .ref c1] ++ bs = v9 at th9 h9
          have LN9 := lstOne P9
          refine for_list (xs := v9) (fun r σ G' => Same G9 G' ∧ ∃ y8 y9 y10 y11, σ = [some (.ref z), some (.int (i : Int)), some (.ref p), some (.int (a : Int)), some (.int (b : Int)), some (.int (m : Int)), some (.ref t), some (.ref T), y8, y9, y10, y11, y12]) ⟨Same.refl _, _, _, _, _, rfl⟩ (fun r σ G' _ h => .inl (.inl (h.1 _ _ h9))) ?_ ?_
          · rintro r v σ G' hv ⟨sm, y8, y9, y10, y11, rfl⟩
            obtain ⟨d, qv, ov⟩ := th9 v (List.mem_of_getElem? hv)
            have qd : ∀ {X : Hp}, Same G9 X → Dq (· = p) X v d := fun s => qv.fr (FrX.same s)
            have pd : ∀ {X : Hp}, Same G9 X → Dq (· = p) X (.ref t) (.tuple [.tuple (xs.map .int), .tuple (ys.map .int)]) := fun s => (pick_dq pk9 (fun c us h => LN9.tup h)).fr (FrX.same s)
            have po := pick_oq pk9 (by omega) (by omega)
            have rp : ∀ {X : Hp} {c : Addr}, Same G9 X → X c = none → Shows (upd X c (.tup [.ref t, v])) (.ref c) (PyData.tuple [.tuple [.tuple (xs.map .int), .tuple (ys.map .int)], d]).shown := fun {X c} s nc => by
              have sc := same_upd (o := .tup [.ref t, v]) nc
              exact Oq.shows' (.tup upd_same ((LN9.same s).out c nc) (.cons (pd (s.trans sc)) (.cons (qd (s.trans sc)) .nil))) (oq_pair (po.mono (by decide) (show 8162 ≤ 70000 by decide)) ov) (by decide) (by decide)
            have bp : ∀ {X : Hp} (B : Bool), Shows X (.bl B) (PyData.bool B).shown := fun B => Oq.shows' (E := fun _ => False) (.bl B) (oq_bl B) (by decide) (by decide)
            generalize (PyData.tuple [.tuple [.tuple (xs.map .int), .tuple (ys.map .int)], d]).shown = S at rp
            refine ⟨.ref t, rfl, v, rfl, by show 2 ≤ sizeLine; decide, fun T1 nT1 => ?_⟩
            have r0 := same_upd (o := .tup [.ref t, v]) nT1
            have sm0 := sm.trans r0
            refine ⟨.ref T1, S, rfl, rp sm nT1, ?_⟩
            refine ⟨.ref t, rfl, v, rfl, t, _, v, d, a, b, xs, ys, rfl, pk9.same sm0, by omega, by omega, qd sm0, fun B1 H1 e1 r1 => ⟨.bl B1, _, rfl, bp B1, _, _, rfl, ?_⟩⟩
            have sm1 := sm0.trans r1
            refine ⟨.ref t, rfl, v, rfl, t, _, v, d, a, b, xs, ys, rfl, pk9.same sm1, by omega, by omega, qd sm1, fun B2 H2 e2 r2 => ⟨.bl B2, _, rfl, bp B2, ?_⟩⟩
            have sm2 := sm1.trans r2
            refine ⟨v, rfl, .ref t, rfl, t, _, v, d, a, b, xs, ys, rfl, pk9.same sm2, by omega, by omega, qd sm2, fun B3 H3 e3 r3 => ⟨.bl B3, _, rfl, bp B3, ?_⟩⟩
            have sm3 := sm2.trans r3
            obtain rfl : B2 = B1 := by rw [e2, e1]
            obtain rfl : B3 = B2 := by rw [e3, e2]
            obtain ⟨sp, eq⟩ := two_strs B3
            generalize (PyData.bool B3).shown = W at sp eq ⊢
            refine ⟨by show 2 ≤ sizeLine; decide, fun l10 n10 y10' => ?_⟩
            have r4 := same_upd (o := .lst [.str W, .str W]) n10
            have h10 := upd_same (H := H3) (a := l10) (o := .lst [.str W, .str W])
            refine ⟨.ref l10, rfl, .str W, rfl, .str W, rfl, by show 2 ≤ sizeLine; decide, fun l11 n11 y11' => ?_⟩
            have r5 := same_upd (o := .lst [.str W, .str W]) n11
            refine ⟨(fun _ => False), (fun _ => False), .list [.str W, .str W], .list [.str W, .str W], .lst (r5 _ _ h10) (fun z => z) y10' (.cons (.str _) (.cons (.str _) .nil)), .lst upd_same (fun z => z) y11' (.cons (.str _) (.cons (.str _) .nil)), sp, sp, ?_⟩
            rw [eq]
            refine ⟨false, rfl, iteF ?_⟩
            have sm5 := sm3.trans (r4.trans r5)
            have en : (!decide (V.str S = V.str S)) = false := by rw [decide_eq_true rfl]; rfl
            refine ⟨.ref t, rfl, v, rfl, by show 2 ≤ sizeLine; decide, fun T2 nT2 => ?_⟩
            have r6 := same_upd (o := .tup [.ref t, v]) nT2
            have sm6 := sm5.trans r6
            refine ⟨.ref T2, S, rfl, rp sm5 nT2, .str S, rfl, rfl, ?_⟩
            rw [en]
            exact ⟨false, rfl, iteF ⟨sm6, _, _, _, _, rfl⟩⟩
          · rintro σ G' ⟨sm, y8, y9, y10, y11, rfl⟩
            exact ⟨F9.trans (Fr.same sm), (P9.same sm).mono (by omega), _, _, _, _, _, _, _, rfl⟩
        · rintro σ G3 ⟨fr3, P3, y5, y6, y7, y8, y9, y10, y11, rfl⟩
          exact ⟨freshSeq hSG np fr3, _, _, _, _, _, _, _, _, _, _, _, _, rfl⟩
      · rintro σ G ⟨hSG, y1, y2, y3, y4, y5, y6, y7, y8, y9, y10, y11, y12, rfl⟩
        exact q G
end
end C2

namespace C2
set_option Elab.async false
set_option linter.all false
set_option maxRecDepth 100000
set_option maxHeartbeats 4000000
open PySem PySem.Spec PyProof.Rows L2
theorem all_mk {l : PySem.W.OpenLaw} {w : World} {K : PySem.W.Frag} {h : Heap} {mg : Str → Option Value} {fa f1 f2 f3 f4 f5 f6 f7 f8 f9 f10 f11 f12 f13 f14 f15 f16 f17 f18 f19 f20 f21 f22 : Addr} (X : K.In h) (G : h.Ns mainGlobals mg) (hfa : mg "law" = some (.ref fa))
    {od1 an1 od2 an2 od3 an3 od4 an4 od5 an5 od6 an6 od7 an7 od8 an8 od9 an9 od10 an10 od11 an11 od12 an12 od13 an13 od14 an14 od15 an15 od16 an16 od17 an17 od18 an18 od19 an19 od20 an20 od21 an21 od22 an22 : Option Addr} {sl1 sl2 sl3 sl4 sl5 sl6 sl7 sl8 sl9 sl10 sl11 sl12 sl13 sl14 sl15 sl16 sl17 sl18 sl19 sl20 sl21 sl22 : Array (Option Value)}
    {oc1 kV1 dc1 pm1 cd1 ct1 oc2 kV2 dc2 pm2 cd2 ct2 oc3 kV3 dc3 pm3 cd3 ct3 oc4 kV4 dc4 pm4 cd4 ct4 oc5 kV5 dc5 pm5 cd5 ct5 oc6 kV6 dc6 pm6 cd6 ct6 oc7 kV7 dc7 pm7 cd7 ct7 oc8 kV8 dc8 pm8 cd8 ct8 oc9 kV9 dc9 pm9 cd9 ct9 oc10 kV10 dc10 pm10 cd10 ct10 oc11 kV11 dc11 pm11 cd11 ct11 oc12 kV12 dc12 pm12 cd12 ct12 oc13 kV13 dc13 pm13 cd13 ct13 oc14 kV14 dc14 pm14 cd14 ct14 oc15 kV15 dc15 pm15 cd15 ct15 oc16 kV16 dc16 pm16 cd16 ct16 oc17 kV17 dc17 pm17 cd17 ct17 oc18 kV18 dc18 pm18 cd18 ct18 oc19 kV19 dc19 pm19 cd19 ct19 oc20 kV20 dc20 pm20 cd20 ct20 oc21 kV21 dc21 pm21 cd21 ct21 oc22 kV22 dc22 pm22 cd22 ct22 : Value}
    (a1 : PySem.W.nsIn K mainGlobals "_law_pot" = some (some (.ref f1))) (l1 : K.lookup f1 = some ⟨oc1, od1, .func (PySem.W.fnOf "_law_pot" "_law_pot" (defArgs sDraws) (defBody sDraws) (defScope sDraws) .none kV1 dc1 pm1 an1 cd1 ct1), sl1⟩) (c1 : PySem.W.codeIn K cd1 "_law_pot" = true) (k1 : PySem.W.keepIn K (.ref f1) = true)
    (a2 : PySem.W.nsIn K mainGlobals "_law_take" = some (some (.ref f2))) (l2 : K.lookup f2 = some ⟨oc2, od2, .func (PySem.W.fnOf "_law_take" "_law_take" (defArgs sTake) (defBody sTake) (defScope sTake) .none kV2 dc2 pm2 an2 cd2 ct2), sl2⟩) (c2 : PySem.W.codeIn K cd2 "_law_take" = true) (k2 : PySem.W.keepIn K (.ref f2) = true)
    (a3 : PySem.W.nsIn K mainGlobals "_law_of" = some (some (.ref f3))) (l3 : K.lookup f3 = some ⟨oc3, od3, .func (PySem.W.fnOf "_law_of" "_law_of" (defArgs sOf) (defBody sOf) (defScope sOf) .none kV3 dc3 pm3 an3 cd3 ct3), sl3⟩) (c3 : PySem.W.codeIn K cd3 "_law_of" = true) (k3 : PySem.W.keepIn K (.ref f3) = true)
    (a4 : PySem.W.nsIn K mainGlobals "_law_mixed" = some (some (.ref f4))) (l4 : K.lookup f4 = some ⟨oc4, od4, .func (PySem.W.fnOf "_law_mixed" "_law_mixed" (defArgs sMixed) (defBody sMixed) (defScope sMixed) .none kV4 dc4 pm4 an4 cd4 ct4), sl4⟩) (c4 : PySem.W.codeIn K cd4 "_law_mixed" = true) (k4 : PySem.W.keepIn K (.ref f4) = true)
    (a5 : PySem.W.nsIn K mainGlobals "_law_pick" = some (some (.ref f5))) (l5 : K.lookup f5 = some ⟨oc5, od5, .func (PySem.W.fnOf "_law_pick" "_law_pick" (defArgs sPick) (defBody sPick) (defScope sPick) .none kV5 dc5 pm5 an5 cd5 ct5), sl5⟩) (c5 : PySem.W.codeIn K cd5 "_law_pick" = true) (k5 : PySem.W.keepIn K (.ref f5) = true)
    (a6 : PySem.W.nsIn K mainGlobals "_law_size" = some (some (.ref f6))) (l6 : K.lookup f6 = some ⟨oc6, od6, .func (PySem.W.fnOf "_law_size" "_law_size" (defArgs sSize) (defBody sSize) (defScope sSize) .none kV6 dc6 pm6 an6 cd6 ct6), sl6⟩) (c6 : PySem.W.codeIn K cd6 "_law_size" = true) (k6 : PySem.W.keepIn K (.ref f6) = true)
    (a7 : PySem.W.nsIn K mainGlobals "_law_comes" = some (some (.ref f7))) (l7 : K.lookup f7 = some ⟨oc7, od7, .func (PySem.W.fnOf "_law_comes" "_law_comes" (defArgs sLComes) (defBody sLComes) (defScope sLComes) .none kV7 dc7 pm7 an7 cd7 ct7), sl7⟩) (c7 : PySem.W.codeIn K cd7 "_law_comes" = true) (k7 : PySem.W.keepIn K (.ref f7) = true)
    (a8 : PySem.W.nsIn K mainGlobals "_law_wants" = some (some (.ref f8))) (l8 : K.lookup f8 = some ⟨oc8, od8, .func (PySem.W.fnOf "_law_wants" "_law_wants" (defArgs sWants) (defBody sWants) (defScope sWants) .none kV8 dc8 pm8 an8 cd8 ct8), sl8⟩) (c8 : PySem.W.codeIn K cd8 "_law_wants" = true) (k8 : PySem.W.keepIn K (.ref f8) = true)
    (a9 : PySem.W.nsIn K mainGlobals "_law_is_order" = some (some (.ref f9))) (l9 : K.lookup f9 = some ⟨oc9, od9, .func (PySem.W.fnOf "_law_is_order" "_law_is_order" (defArgs sIsOrd) (defBody sIsOrd) (defScope sIsOrd) .none kV9 dc9 pm9 an9 cd9 ct9), sl9⟩) (c9 : PySem.W.codeIn K cd9 "_law_is_order" = true) (k9 : PySem.W.keepIn K (.ref f9) = true)
    (a10 : PySem.W.nsIn K mainGlobals "_law_order" = some (some (.ref f10))) (l10 : K.lookup f10 = some ⟨oc10, od10, .func (PySem.W.fnOf "_law_order" "_law_order" (defArgs sOrder) (defBody sOrder) (defScope sOrder) .none kV10 dc10 pm10 an10 cd10 ct10), sl10⟩) (c10 : PySem.W.codeIn K cd10 "_law_order" = true) (k10 : PySem.W.keepIn K (.ref f10) = true)
    (a11 : PySem.W.nsIn K mainGlobals "_law_bent" = some (some (.ref f11))) (l11 : K.lookup f11 = some ⟨oc11, od11, .func (PySem.W.fnOf "_law_bent" "_law_bent" (defArgs sBent) (defBody sBent) (defScope sBent) .none kV11 dc11 pm11 an11 cd11 ct11), sl11⟩) (c11 : PySem.W.codeIn K cd11 "_law_bent" = true) (k11 : PySem.W.keepIn K (.ref f11) = true)
    (a12 : PySem.W.nsIn K mainGlobals "shows_order" = some (some (.ref f12))) (l12 : K.lookup f12 = some ⟨oc12, od12, .func (PySem.W.fnOf "shows_order" "shows_order" (defArgs sShows) (defBody sShows) (defScope sShows) .none kV12 dc12 pm12 an12 cd12 ct12), sl12⟩) (c12 : PySem.W.codeIn K cd12 "shows_order" = true) (k12 : PySem.W.keepIn K (.ref f12) = true)
    (a13 : PySem.W.nsIn K mainGlobals "size_of_pick" = some (some (.ref f13))) (l13 : K.lookup f13 = some ⟨oc13, od13, .func (PySem.W.fnOf "size_of_pick" "size_of_pick" (defArgs sSizeP) (defBody sSizeP) (defScope sSizeP) .none kV13 dc13 pm13 an13 cd13 ct13), sl13⟩) (c13 : PySem.W.codeIn K cd13 "size_of_pick" = true) (k13 : PySem.W.keepIn K (.ref f13) = true)
    (a14 : PySem.W.nsIn K mainGlobals "is_crossing" = some (some (.ref f14))) (l14 : K.lookup f14 = some ⟨oc14, od14, .func (PySem.W.fnOf "is_crossing" "is_crossing" (defArgs sCross) (defBody sCross) (defScope sCross) .none kV14 dc14 pm14 an14 cd14 ct14), sl14⟩) (c14 : PySem.W.codeIn K cd14 "is_crossing" = true) (k14 : PySem.W.keepIn K (.ref f14) = true)
    (a15 : PySem.W.nsIn K mainGlobals "wanted" = some (some (.ref f15))) (l15 : K.lookup f15 = some ⟨oc15, od15, .func (PySem.W.fnOf "wanted" "wanted" (defArgs sWanted) (defBody sWanted) (defScope sWanted) .none kV15 dc15 pm15 an15 cd15 ct15), sl15⟩) (c15 : PySem.W.codeIn K cd15 "wanted" = true) (k15 : PySem.W.keepIn K (.ref f15) = true)
    (a16 : PySem.W.nsIn K mainGlobals "comes" = some (some (.ref f16))) (l16 : K.lookup f16 = some ⟨oc16, od16, .func (PySem.W.fnOf "comes" "comes" (defArgs sComes) (defBody sComes) (defScope sComes) .none kV16 dc16 pm16 an16 cd16 ct16), sl16⟩) (c16 : PySem.W.codeIn K cd16 "comes" = true) (k16 : PySem.W.keepIn K (.ref f16) = true)
    (a17 : PySem.W.nsIn K mainGlobals "has_wire" = some (some (.ref f17))) (l17 : K.lookup f17 = some ⟨oc17, od17, .func (PySem.W.fnOf "has_wire" "has_wire" (defArgs sHas) (defBody sHas) (defScope sHas) .none kV17 dc17 pm17 an17 cd17 ct17), sl17⟩) (c17 : PySem.W.codeIn K cd17 "has_wire" = true) (k17 : PySem.W.keepIn K (.ref f17) = true)
    (a18 : PySem.W.nsIn K mainGlobals "legs" = some (some (.ref f18))) (l18 : K.lookup f18 = some ⟨oc18, od18, .func (PySem.W.fnOf "legs" "legs" (defArgs sLegs) (defBody sLegs) (defScope sLegs) .none kV18 dc18 pm18 an18 cd18 ct18), sl18⟩) (c18 : PySem.W.codeIn K cd18 "legs" = true) (k18 : PySem.W.keepIn K (.ref f18) = true)
    (a19 : PySem.W.nsIn K mainGlobals "is_whole" = some (some (.ref f19))) (l19 : K.lookup f19 = some ⟨oc19, od19, .func (PySem.W.fnOf "is_whole" "is_whole" (defArgs sPWhole) (defBody sPWhole) (defScope sPWhole) .none kV19 dc19 pm19 an19 cd19 ct19), sl19⟩) (c19 : PySem.W.codeIn K cd19 "is_whole" = true) (k19 : PySem.W.keepIn K (.ref f19) = true)
    (a20 : PySem.W.nsIn K mainGlobals "is_between" = some (some (.ref f20))) (l20 : K.lookup f20 = some ⟨oc20, od20, .func (PySem.W.fnOf "is_between" "is_between" (defArgs sBetween) (defBody sBetween) (defScope sBetween) .none kV20 dc20 pm20 an20 cd20 ct20), sl20⟩) (c20 : PySem.W.codeIn K cd20 "is_between" = true) (k20 : PySem.W.keepIn K (.ref f20) = true)
    (a21 : PySem.W.nsIn K mainGlobals "is_tuple_of" = some (some (.ref f21))) (l21 : K.lookup f21 = some ⟨oc21, od21, .func (PySem.W.fnOf "is_tuple_of" "is_tuple_of" (defArgs sTupOf) (defBody sTupOf) (defScope sTupOf) .none kV21 dc21 pm21 an21 cd21 ct21), sl21⟩) (c21 : PySem.W.codeIn K cd21 "is_tuple_of" = true) (k21 : PySem.W.keepIn K (.ref f21) = true)
    (a22 : PySem.W.nsIn K mainGlobals "law" = some (some (.ref f22))) (l22 : K.lookup f22 = some ⟨oc22, od22, .func (PySem.W.fnOf "law" "law" (defArgs sLaw) (defBody sLaw) (defScope sLaw) .none kV22 dc22 pm22 an22 cd22 ct22), sl22⟩) (c22 : PySem.W.codeIn K cd22 "law" = true) (k22 : PySem.W.keepIn K (.ref f22) = true)
    (z1 : PySem.W.nsIn K mainGlobals "isinstance" = some none) (z2 : PySem.W.nsIn K mainGlobals "int" = some none) (z3 : PySem.W.nsIn K mainGlobals "bool" = some none) (z4 : PySem.W.nsIn K mainGlobals "tuple" = some none) (z5 : PySem.W.nsIn K mainGlobals "len" = some none) (z6 : PySem.W.nsIn K mainGlobals "all" = some none) (z7 : PySem.W.nsIn K mainGlobals "range" = some none) (z8 : PySem.W.nsIn K mainGlobals "min" = some none) (z9 : PySem.W.nsIn K mainGlobals "max" = some none) (z10 : PySem.W.nsIn K mainGlobals "repr" = some none) (z11 : PySem.W.nsIn K mainGlobals "abs" = some none) (z12 : PySem.W.nsIn K mainGlobals "sorted" = some none) (z13 : PySem.W.nsIn K mainGlobals "list" = some none)
    {cB : Addr} {ddB : Option Addr} {nB : Nat} {sqB : Array (Option Value)} {e0 e1 e2 e3 : Addr} (gB : PySem.W.nsIn K mainGlobals "BEYOND" = some (some (.ref cB))) (uB : K.lookup cB = some ⟨.type "tuple", ddB, .seq #[.ref e0, .ref e1, .ref e2, .ref e3] nB, sqB⟩)
    {dde0 : Option Addr} {ne0 : Nat} {sqe0 : Array (Option Value)} {xe00 xe01 : Nat} (ue0 : K.lookup e0 = some ⟨.type "tuple", dde0, .seq #[.int (-1) xe00, .int (0) xe01] ne0, sqe0⟩)
    {dde1 : Option Addr} {ne1 : Nat} {sqe1 : Array (Option Value)} {xe10 xe11 : Nat} (ue1 : K.lookup e1 = some ⟨.type "tuple", dde1, .seq #[.int (0) xe10, .int (-1) xe11] ne1, sqe1⟩)
    {dde2 : Option Addr} {ne2 : Nat} {sqe2 : Array (Option Value)} {xe20 xe21 : Nat} (ue2 : K.lookup e2 = some ⟨.type "tuple", dde2, .seq #[.int (1) xe20, .int (0) xe21] ne2, sqe2⟩)
    {dde3 : Option Addr} {ne3 : Nat} {sqe3 : Array (Option Value)} {xe30 xe31 : Nat} (ue3 : K.lookup e3 = some ⟨.type "tuple", dde3, .seq #[.int (0) xe30, .int (1) xe31] ne3, sqe3⟩) :
    ∃ fd : FuncData, (∀ (s : Shared) (v : Value), BindsTo s fd ⟨[v], []⟩ [("_law_script", v)]) ∧ ∀ base : Heap, K.In base → base.Ns mainGlobals mg → FnG l.prog w K mg base 5 fa fd ["_law_script"] (spLaw K) := by
  have e := hfa.symm.trans (PySem.W.mg_of X G a22)
  cases e
  have F1 := fun_mk (st := sDraws) l1 c1 k1
  have F2 := fun_mk (st := sTake) l2 c2 k2
  have F3 := fun_mk (st := sOf) l3 c3 k3
  have F4 := fun_mk (st := sMixed) l4 c4 k4
  have F5 := fun_mk (st := sPick) l5 c5 k5
  have F6 := fun_mk (st := sSize) l6 c6 k6
  have F7 := fun_mk (st := sLComes) l7 c7 k7
  have F8 := fun_mk (st := sWants) l8 c8 k8
  have F9 := fun_mk (st := sIsOrd) l9 c9 k9
  have F10 := fun_mk (st := sOrder) l10 c10 k10
  have F11 := fun_mk (st := sBent) l11 c11 k11
  have F12 := fun_mk (st := sShows) l12 c12 k12
  have F13 := fun_mk (st := sSizeP) l13 c13 k13
  have F14 := fun_mk (st := sCross) l14 c14 k14
  have F15 := fun_mk (st := sWanted) l15 c15 k15
  have F16 := fun_mk (st := sComes) l16 c16 k16
  have F17 := fun_mk (st := sHas) l17 c17 k17
  have F18 := fun_mk (st := sLegs) l18 c18 k18
  have F19 := fun_mk (st := sPWhole) l19 c19 k19
  have F20 := fun_mk (st := sBetween) l20 c20 k20
  have F21 := fun_mk (st := sTupOf) l21 c21 k21
  have F22 := fun_mk (st := sLaw) l22 c22 k22
  have b1 := F1.binds (ps := ["_law_script", "_law_k"]) fun _ _ _ _ _ _ us hl => match us, hl with | [_, _], _ => rfl
  have b2 := F2.binds (ps := ["_law_pot_here", "_law_many"]) fun _ _ _ _ _ _ us hl => match us, hl with | [_, _], _ => rfl
  have b3 := F3.binds (ps := ["_law_pot_here", "_law_some"]) fun _ _ _ _ _ _ us hl => match us, hl with | [_, _], _ => rfl
  have b4 := F4.binds (ps := ["_law_pot_here", "_law_some"]) fun _ _ _ _ _ _ us hl => match us, hl with | [_, _], _ => rfl
  have b5 := F5.binds (ps := ["_law_pot_here", "_law_a", "_law_b"]) fun _ _ _ _ _ _ us hl => match us, hl with | [_, _, _], _ => rfl
  have b6 := F6.binds (ps := ["_law_pot_here", "_law_most"]) fun _ _ _ _ _ _ us hl => match us, hl with | [_, _], _ => rfl
  have b7 := F7.binds (ps := ["_law_chosen", "_law_i", "_law_j"]) fun _ _ _ _ _ _ us hl => match us, hl with | [_, _, _], _ => rfl
  have b8 := F8.binds (ps := ["_law_chosen", "_law_i", "_law_j"]) fun _ _ _ _ _ _ us hl => match us, hl with | [_, _, _], _ => rfl
  have b9 := F9.binds (ps := ["_law_chosen", "_law_what"]) fun _ _ _ _ _ _ us hl => match us, hl with | [_, _], _ => rfl
  have b10 := F10.binds (ps := ["_law_pot_here", "_law_chosen"]) fun _ _ _ _ _ _ us hl => match us, hl with | [_, _], _ => rfl
  have b11 := F11.binds (ps := ["_law_pot_here", "_law_a", "_law_b", "_law_found"]) fun _ _ _ _ _ _ us hl => match us, hl with | [_, _, _, _], _ => rfl
  have b12 := F12.binds (ps := ["pick", "thing"]) fun _ _ _ _ _ _ us hl => match us, hl with | [_, _], _ => rfl
  have b13 := F13.binds (ps := ["pick"]) fun _ _ _ _ _ _ us hl => match us, hl with | [_], _ => rfl
  have b14 := F14.binds (ps := ["a", "b", "thing"]) fun _ _ _ _ _ _ us hl => match us, hl with | [_, _, _], _ => rfl
  have b15 := F15.binds (ps := ["pick", "i", "j"]) fun _ _ _ _ _ _ us hl => match us, hl with | [_, _, _], _ => rfl
  have b16 := F16.binds (ps := ["pick", "i", "j"]) fun _ _ _ _ _ _ us hl => match us, hl with | [_, _, _], _ => rfl
  have b17 := F17.binds (ps := ["pick", "wire"]) fun _ _ _ _ _ _ us hl => match us, hl with | [_, _], _ => rfl
  have b18 := F18.binds (ps := ["i", "j"]) fun _ _ _ _ _ _ us hl => match us, hl with | [_, _], _ => rfl
  have b19 := F19.binds (ps := ["thing"]) fun _ _ _ _ _ _ us hl => match us, hl with | [_], _ => rfl
  have b20 := F20.binds (ps := ["thing", "least", "most"]) fun _ _ _ _ _ _ us hl => match us, hl with | [_, _, _], _ => rfl
  have b21 := F21.binds (ps := ["thing", "many"]) fun _ _ _ _ _ _ us hl => match us, hl with | [_, _], _ => rfl
  have hB : ∀ H : Hp, SqT K H cB [.ref e0, .ref e1, .ref e2, .ref e3] := fun H => .inr ⟨_, _, _, uB, rfl, rfl, by show 4 ≤ sizeLine; decide, .cons rfl (.cons rfl (.cons rfl (.cons rfl .nil)))⟩
  have he0 : ∀ H : Hp, SqT K H e0 [.int (-1), .int (0)] := fun H => .inr ⟨_, _, _, ue0, rfl, rfl, by show 2 ≤ sizeLine; decide, .cons ⟨_, rfl⟩ (.cons ⟨_, rfl⟩ (.nil))⟩
  have he1 : ∀ H : Hp, SqT K H e1 [.int (0), .int (-1)] := fun H => .inr ⟨_, _, _, ue1, rfl, rfl, by show 2 ≤ sizeLine; decide, .cons ⟨_, rfl⟩ (.cons ⟨_, rfl⟩ (.nil))⟩
  have he2 : ∀ H : Hp, SqT K H e2 [.int (1), .int (0)] := fun H => .inr ⟨_, _, _, ue2, rfl, rfl, by show 2 ≤ sizeLine; decide, .cons ⟨_, rfl⟩ (.cons ⟨_, rfl⟩ (.nil))⟩
  have he3 : ∀ H : Hp, SqT K H e3 [.int (0), .int (1)] := fun H => .inr ⟨_, _, _, ue3, rfl, rfl, by show 2 ≤ sizeLine; decide, .cons ⟨_, rfl⟩ (.cons ⟨_, rfl⟩ (.nil))⟩
  have hBy : Beyond K cB e0 e1 e2 e3 := fun H => ⟨hB H, he0 H, he1 H, he2 H, he3 H⟩
  exact ⟨PySem.W.fnOf "law" "law" (defArgs sLaw) (defBody sLaw) (defScope sLaw) .none kV22 dc22 pm22 an22 cd22 ct22, fun s v => .of_eq rfl, fun base _ _ =>
    ok_law F22 F1 F2 F3 F4 F5 F6 F7 F8 F9 F10 F11 F12 F13 F14 F15 F16 F17 F18 F19 F20 F21 b1 b2 b3 b4 b5 b6 b7 b8 b9 b10 b11 b12 b13 b14 b15 b16 b17 b18 b19 b20 b21 (PySem.W.mg_of X G a1) (PySem.W.mg_of X G a2) (PySem.W.mg_of X G a3) (PySem.W.mg_of X G a4) (PySem.W.mg_of X G a5) (PySem.W.mg_of X G a6) (PySem.W.mg_of X G a7) (PySem.W.mg_of X G a8) (PySem.W.mg_of X G a9) (PySem.W.mg_of X G a10) (PySem.W.mg_of X G a11) (PySem.W.mg_of X G a12) (PySem.W.mg_of X G a13) (PySem.W.mg_of X G a14) (PySem.W.mg_of X G a15) (PySem.W.mg_of X G a16) (PySem.W.mg_of X G a17) (PySem.W.mg_of X G a18) (PySem.W.mg_of X G a19) (PySem.W.mg_of X G a20) (PySem.W.mg_of X G a21) (PySem.W.mg_none_of X G z1) (PySem.W.mg_none_of X G z2) (PySem.W.mg_none_of X G z3) (PySem.W.mg_none_of X G z4) (PySem.W.mg_none_of X G z5) (PySem.W.mg_none_of X G z6) (PySem.W.mg_none_of X G z7) (PySem.W.mg_none_of X G z8) (PySem.W.mg_none_of X G z9) (PySem.W.mg_none_of X G z10) (PySem.W.mg_none_of X G z11) (PySem.W.mg_none_of X G z12) (PySem.W.mg_none_of X G z13) (PySem.W.mg_of X G gB) hBy⟩
end C2
open PySem PySem.W PyProof.Rows
set_option maxRecDepth 100000 in
set_option maxHeartbeats 0 in
theorem PySem.Challenge.cw_cornertold_k29_orders_looked_at_holds : PySem.Challenge.rw_cornertold_k29_orders_looked_at.Holds := by
  w_on; o_law; k_head; (case hw => w_witness2)
  k_fill
  refine C2.walkG (l := PySem.Challenge.rw_cornertold_k29_orders_looked_at) (n := 63) (k := 5) (x := "_law_script") (sp := C2.spLaw) rfl (by decide) rfl ⟨rfl, by decide, by decide⟩ (fun w h Y => PySem.W.kIn_of Y) ?F (fun _ _ a ns hl hS => ⟨a, ns, rfl, hS, hl, fun _ => rfl⟩)
  case F =>
    intro w mg fa h KX G hmg
    refine' C2.all_mk KX G hmg ?a1 ?l1 ?c1 ?k1 ?a2 ?l2 ?c2 ?k2 ?a3 ?l3 ?c3 ?k3 ?a4 ?l4 ?c4 ?k4 ?a5 ?l5 ?c5 ?k5 ?a6 ?l6 ?c6 ?k6 ?a7 ?l7 ?c7 ?k7 ?a8 ?l8 ?c8 ?k8 ?a9 ?l9 ?c9 ?k9 ?a10 ?l10 ?c10 ?k10 ?a11 ?l11 ?c11 ?k11 ?a12 ?l12 ?c12 ?k12 ?a13 ?l13 ?c13 ?k13 ?a14 ?l14 ?c14 ?k14 ?a15 ?l15 ?c15 ?k15 ?a16 ?l16 ?c16 ?k16 ?a17 ?l17 ?c17 ?k17 ?a18 ?l18 ?c18 ?k18 ?a19 ?l19 ?c19 ?k19 ?a20 ?l20 ?c20 ?k20 ?a21 ?l21 ?c21 ?k21 ?a22 ?l22 ?c22 ?k22 ?z1 ?z2 ?z3 ?z4 ?z5 ?z6 ?z7 ?z8 ?z9 ?z10 ?z11 ?z12 ?z13 ?gB ?uB ?ue0 ?ue1 ?ue2 ?ue3
    (case a1 => k_is); (case l1 => k_is); (case c1 => k_is); (case k1 => k_is); (case a2 => k_is); (case l2 => k_is); (case c2 => k_is); (case k2 => k_is)
    (case a3 => k_is); (case l3 => k_is); (case c3 => k_is); (case k3 => k_is); (case a4 => k_is); (case l4 => k_is); (case c4 => k_is); (case k4 => k_is)
    (case a5 => k_is); (case l5 => k_is); (case c5 => k_is); (case k5 => k_is); (case a6 => k_is); (case l6 => k_is); (case c6 => k_is); (case k6 => k_is)
    (case a7 => k_is); (case l7 => k_is); (case c7 => k_is); (case k7 => k_is); (case a8 => k_is); (case l8 => k_is); (case c8 => k_is); (case k8 => k_is)
    (case a9 => k_is); (case l9 => k_is); (case c9 => k_is); (case k9 => k_is); (case a10 => k_is); (case l10 => k_is); (case c10 => k_is); (case k10 => k_is)
    (case a11 => k_is); (case l11 => k_is); (case c11 => k_is); (case k11 => k_is); (case a12 => k_is); (case l12 => k_is); (case c12 => k_is); (case k12 => k_is)
    (case a13 => k_is); (case l13 => k_is); (case c13 => k_is); (case k13 => k_is); (case a14 => k_is); (case l14 => k_is); (case c14 => k_is); (case k14 => k_is)
    (case a15 => k_is); (case l15 => k_is); (case c15 => k_is); (case k15 => k_is); (case a16 => k_is); (case l16 => k_is); (case c16 => k_is); (case k16 => k_is)
    (case a17 => k_is); (case l17 => k_is); (case c17 => k_is); (case k17 => k_is); (case a18 => k_is); (case l18 => k_is); (case c18 => k_is); (case k18 => k_is)
    (case a19 => k_is); (case l19 => k_is); (case c19 => k_is); (case k19 => k_is); (case a20 => k_is); (case l20 => k_is); (case c20 => k_is); (case k20 => k_is)
    (case a21 => k_is); (case l21 => k_is); (case c21 => k_is); (case k21 => k_is); (case a22 => k_is); (case l22 => k_is); (case c22 => k_is); (case k22 => k_is)
    (case z1 => k_is); (case z2 => k_is); (case z3 => k_is); (case z4 => k_is); (case z5 => k_is); (case z6 => k_is); (case z7 => k_is); (case z8 => k_is)
    (case z9 => k_is); (case z10 => k_is); (case z11 => k_is); (case z12 => k_is); (case z13 => k_is)
    (case gB => k_is); (case uB => k_is); (case ue0 => k_is); (case ue1 => k_is); (case ue2 => k_is); (case ue3 => k_is)
