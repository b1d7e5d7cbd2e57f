import PyProof.Rows.All
import Wide.All
import OpenK.AllK
import Wide.FinOn
import HandS.ForMost
import HandS.Wide
import HandS.Style
import HandS.Comp
import HandS.Walk
import HandS.Zip
import KE.GoesMore
import KE.GoesEnum
import HandS.Conv
import HandS.IsInst
import HandS.TupAny
import PyProof.CallFns
import HandS.Deep
import HandS.TupMul
import PySem.Challenge.RW_cornertold_k23_picks_or_not
set_option Elab.async false
set_option linter.all false
set_option maxRecDepth 100000
namespace C2
set_option Elab.async false
set_option linter.all false
set_option maxRecDepth 100000
set_option maxHeartbeats 4000000
open PySem PySem.Spec PyProof.Rows L2
def topS (i : Nat) : Stmt := PySem.Challenge.pw_cornertold_k23_picks_or_not.main.body.getD i (.Pass ⟨0, 0, 0, 0⟩)
abbrev sPWhole : Stmt := topS 1
abbrev sBetween : Stmt := topS 2
abbrev sTupOf : Stmt := topS 3
abbrev sNumbers : Stmt := topS 4
abbrev sIsPick : Stmt := topS 6
abbrev sDraws : Stmt := topS 8
abbrev sTake : Stmt := topS 9
abbrev sOf : Stmt := topS 10
abbrev sPick : Stmt := topS 11
abbrev sSize : Stmt := topS 12
abbrev sAre : Stmt := topS 13
abbrev sLIsPick : Stmt := topS 14
abbrev sBent : Stmt := topS 15
abbrev sLaw : Stmt := topS 16
theorem scDraws : FnScope ["_law_script", "_law_k", "_law_cell", "_law_great"] ["_law_script", "_law_k"] (defScope sDraws) := ⟨rfl, rfl, rfl, by decide +kernel, rfl, by decide +kernel, by decide +kernel⟩
theorem scOf : FnScope ["_law_pot_here", "_law_some"] ["_law_pot_here", "_law_some"] (defScope sOf) := ⟨rfl, rfl, rfl, by decide +kernel, rfl, by decide +kernel, by decide +kernel⟩
theorem scTake : FnScope ["_law_pot_here", "_law_many", "_law_digit", "_law_turn", "_law_prime", "_law_drawn"] ["_law_pot_here", "_law_many"] (defScope sTake) := ⟨rfl, rfl, rfl, by decide +kernel, rfl, by decide +kernel, by decide +kernel⟩

/-- all that was tracked, but what stands at p, is as it was -/
def Fr (p : Addr) (H H' : Hp) : Prop := ∀ b o, b ≠ p → H b = some o → H' b = some o
theorem Fr.refl (p : Addr) (H : Hp) : Fr p H H := fun _ _ _ h => h
theorem Fr.trans {p : Addr} {H H1 H2 : Hp} (a : Fr p H H1) (b : Fr p H1 H2) : Fr p H H2 := fun c o n h => b c o n (a c o n h)
theorem Fr.same {p : Addr} {H H1 : Hp} (a : Same H H1) : Fr p H H1 := fun c o _ h => a c o h
theorem Fr.upd {p : Addr} {H : Hp} {o : HO} : Fr p H (upd H p o) := fun c u n h => by rw [upd_ne n]; exact h
theorem Fr.new {p q : Addr} {H : Hp} {o : HO} (h : H q = none) : Fr p H (L2.upd H q o) := fun c u n e => by rw [upd_ne (ne_of_none e h)]; exact e
theorem Fr.free {p : Addr} {H H' : Hp} (e : Fr p H H') {l : Addr} (n : l ≠ p) (h : H' l = none) : H l = none := by
  cases q : H l with
  | none => rfl
  | some o => rw [e l o n q] at h; cases h
theorem same_upd {H : Hp} {p : Addr} {o : HO} (h : H p = none) : Same H (upd H p o) := fun b x e => by
  rw [upd_ne (ne_of_none e h)]
  exact e
def PotAt (H : Hp) (p : Addr) (n : Nat) : Prop := ∃ g c t : Int, H p = some (.lst [.int g, .int c, .int t]) ∧ 0 ≤ t ∧ t ≤ (n : Int)
section
variable {P : Program} {w : World} {K : PySem.W.Frag} {mg : Str → Option Value} {base : Heap}
/-! ### draws -/
def spDraws (K : PySem.W.Frag) : Sp := fun vs H Q _ => ∃ (a : Addr) (ns : List Int) (k : Nat), vs = [.ref a, .int (k : Int)] ∧ SqL K H a (ns.map V.int) ∧ k ≤ 1000 ∧
  ∀ H' p, Same H H' → H p = none → PotAt H' p 0 → Q (.ref p) H'
theorem pow_ok1 : CPow 10 18 := ⟨by decide, by decide, by decide⟩
theorem pow_ok2 : CPow 10 60 := ⟨by decide, by decide, by decide⟩
theorem wide1 : CMulW ((10 : Int) ^ (60 : Int).toNat) ((10 : Int) ^ (60 : Int).toNat) := wide_mul (a := 200) (b := 200) (by decide +kernel) (by decide +kernel) (by decide) (by decide) (by decide)
theorem wide2 : CMulW ((10 : Int) ^ (60 : Int).toNat * (10 : Int) ^ (60 : Int).toNat) ((10 : Int) ^ (60 : Int).toNat) := wide_mul (a := 400) (b := 200) (by decide +kernel) (by decide +kernel) (by decide) (by decide) (by decide)
theorem wide3 : (0 : Int) < (10 : Int) ^ (60 : Int).toNat * (10 : Int) ^ (60 : Int).toNat * (10 : Int) ^ (60 : Int).toNat := by decide +kernel
theorem fin_draws {H : Hp} {Q : VK} {a : Addr} {k : Nat} (q : ∀ (H' : Hp) (p : Addr), Same H H' → H p = none → PotAt H' p 0 → Q (V.ref p) H') (hk : k ≤ 1000) (cell great : Int) :
    tRet (tLst (tCons (tVar 3) (tCons (tOp (rI (fun x j => 0 < j) fun i j => V.int (i % j)) (tOp (rI0 fun i j => V.int (i + j)) (tOp (rI0 fun i j => V.int (i + j))
      (tOp (rI CMul fun i j => V.int (i * j)) (tOp (rI (fun x j => 0 < j) fun i j => V.int (i % j)) (tVar 2) (tC (V.int 2305843009213693951))) (tC (V.int 1000033)))
      (tOp (rI CMul fun i j => V.int (i * j)) (tC (V.int 7919)) (tVar 1))) (tC (V.int 41))) (tC (V.int 2305843009213693921))) (tCons (tC (V.int 0)) tNil))))
      { nx := fun x H' => Q V.non H', rt := Q } [some (V.ref a), some (V.int (k : Int)), some (V.int cell), some (V.int great)] H := by
  refine ⟨.int great, rfl, .int cell, rfl, cell, 2305843009213693951, rfl, rfl, (by show (0 : Int) < 2305843009213693951; decide), _, 1000033, rfl, rfl, .inr ⟨by decide, by decide⟩, .int (k : Int), rfl, 7919, (k : Int), rfl, rfl, .inl ⟨by decide, by decide⟩, _, _, rfl, rfl, _, 41, rfl, rfl, _, _, rfl, rfl, (by show (0 : Int) < 2305843009213693921; decide), by show 3 ≤ sizeLine; decide, fun p np => ?_⟩
  exact q _ p (same_upd np) np ⟨_, _, _, upd_same, Int.le_refl _, Int.le_refl _⟩
theorem ok_draws {f : Addr} {fd : FuncData} {k : Nat} (F : Fun K "_law_pot" "_law_pot" sDraws f fd) (ml : mg "len" = none) (ma : mg "abs" = none) : FnOk P w K mg base CX0 (k + 1) f fd ["_law_script", "_law_k"] (spDraws K) := by
  refine F.ok scDraws (fun vs H Q E h => ?_) (fun cdv A outer s H vs Q E hr h => ?_)
  · obtain ⟨a, ns, k, rfl, _⟩ := h
    rfl
  · obtain ⟨a, ns, k, rfl, hS, hk, q⟩ := h
    refine ⟨_, pss_cons (ps_set (i := 2) scDraws.nd rfl (.inl rfl) (pe_ifExp (pt_cmpR op_lt (pv 1) (pe_callB call_len_seq (by rfl) ml PySem.boot_len (pa_cons (pv 0) pa_nil)) (nomark _))
          (pe_ix ix_list (pv 0) (pv 1) (fun _ _ => rfl)) (pe_op op_add (pe_op op_mul pe_int (pv 1)) pe_int)))
      (pss_cons (ps_set (i := 3) scDraws.nd rfl (.inl rfl) (pe_ifExp (pt_cmpR op_ge (pe_callB call_abs (by rfl) ma (by decide +kernel) (pa_cons (pv 2) pa_nil)) (pe_op op_pow pe_int pe_int) (nomark _))
          (pe_op op_mod (pe_callB call_abs (by rfl) ma (by decide +kernel) (pa_cons (pv 2) pa_nil)) (pe_op op_mulW (pe_op op_mulW (pe_op op_pow pe_int pe_int) (pe_op op_pow pe_int pe_int)) (pe_op op_pow pe_int pe_int))) pe_int))
      (pss_one (ps_ret (pe_lst (pa_cons (pv 3) (pa_cons (pe_op op_mod (pe_op op_add (pe_op op_add (pe_op op_mul (pe_op op_mod (pv 2) pe_int) pe_int) (pe_op op_mul pe_int (pv 1))) pe_int) pe_int) (pa_cons pe_int pa_nil))))))), ?_⟩
    refine ⟨.int (k : Int), rfl, .ref a, rfl, a, _, rfl, .inl hS, _, _, rfl, rfl, _, rfl, ite2 (fun e => ?_) (fun e => ?_)⟩
    · have e1 : k < ns.length := by
        have := of_decide_eq_true e
        rw [List.length_map] at this
        omega
      refine ⟨.ref a, rfl, .int (k : Int), rfl, a, _, _, .int ns[k], rfl, rfl, hS, atI_nat (by rw [List.getElem?_map, List.getElem?_eq_getElem e1]; rfl), ?_⟩
      generalize ns[k] = cell
      refine ⟨.int cell, rfl, cell, rfl, 10, 18, rfl, rfl, pow_ok1, _, _, rfl, rfl, _, rfl, ite2 (fun e => ?_) (fun e => ?_)⟩
      · refine ⟨.int cell, rfl, cell, rfl, 10, 60, rfl, rfl, pow_ok2, 10, 60, rfl, rfl, pow_ok2, _, _, rfl, rfl, wide1, 10, 60, rfl, rfl, pow_ok2, _, _, rfl, rfl, wide2, _, _, rfl, rfl, wide3, ?_⟩
        exact fin_draws q hk _ _
      · exact fin_draws q hk _ _
    · refine ⟨.int (k : Int), rfl, 5, (k : Int), rfl, rfl, .inl ⟨by decide, by decide⟩, _, 3, rfl, rfl, ?_⟩
      refine ⟨_, rfl, _, rfl, 10, 18, rfl, rfl, pow_ok1, _, _, rfl, rfl, _, rfl, ite2 (fun e => ?_) (fun e => ?_)⟩
      · refine ⟨_, rfl, _, rfl, 10, 60, rfl, rfl, pow_ok2, 10, 60, rfl, rfl, pow_ok2, _, _, rfl, rfl, wide1, 10, 60, rfl, rfl, pow_ok2, _, _, rfl, rfl, wide2, _, _, rfl, rfl, wide3, ?_⟩
        exact fin_draws q hk _ _
      · exact fin_draws q hk _ _
end
end C2

namespace C2
set_option Elab.async false
set_option linter.all false
set_option maxRecDepth 100000
set_option maxHeartbeats 4000000
open PySem PySem.Spec PyProof.Rows L2
section
variable {P : Program} {w : World} {K : PySem.W.Frag} {mg : Str → Option Value} {base : Heap}
def primes : List V := [.int 2147483647, .int 2147483629, .int 2147483587, .int 2147483579, .int 2147483563, .int 2147483549, .int 2147483543]
theorem primes_at {r : Int} (h0 : 0 ≤ r) (h1 : r < 7) : ∃ v : Int, atI primes r = some (.int v) ∧ 0 < v ∧ v < 2147483648 := by
  have : r = 0 ∨ r = 1 ∨ r = 2 ∨ r = 3 ∨ r = 4 ∨ r = 5 ∨ r = 6 := by omega
  rcases this with rfl | rfl | rfl | rfl | rfl | rfl | rfl <;> exact ⟨_, rfl, by decide, by decide⟩
def spTake : Sp := fun vs H Q _ => ∃ (p : Addr) (m : Int) (n : Nat), vs = [.ref p, .int m] ∧ PotAt H p n ∧ n < 1000000 ∧ 0 < m ∧ m < 1073741824 ∧
  ∀ (d : Int) H', Fr p H H' → PotAt H' p (n + 1) → 0 ≤ d → d < m → Q (.int d) H'
theorem ok_take {f : Addr} {fd : FuncData} {k : Nat} (F : Fun K "_law_take" "_law_take" sTake f fd) : FnOk P w K mg base CX0 (k + 1) f fd ["_law_pot_here", "_law_many"] spTake := by
  refine F.ok scTake (fun vs H Q E h => ?_) (fun cdv A outer s H vs Q E hr h => ?_)
  · obtain ⟨a, ns, k, rfl, _⟩ := h
    rfl
  · obtain ⟨p, m, n, rfl, ⟨g, c, t, hp, ht0, ht1⟩, hn, hm0, hm1, q⟩ := h
    refine ⟨_, pss_cons (ps_if (pt_cmpR op_gt (pe_ix ix_list (pv 0) pe_int (fun _ _ => rfl)) pe_int (nomark _))
        (pss_cons (ps_set (i := 2) scTake.nd rfl (.inl rfl) (pe_op op_mod (pe_ix ix_list (pv 0) pe_int (fun _ _ => rfl)) (pv 1)))
          (pss_cons (ps_asg (pe_op op_fdiv (pe_ix ix_list (pv 0) pe_int (fun _ _ => rfl)) (pv 1)) (pg_sub (pv 0) pe_int set_list)) (pss_one (ps_ret (pv 2))))) pss_nil)
      (pss_cons (ps_set (i := 3) scTake.nd rfl (.inl rfl) (pe_op op_add (pe_ix ix_list (pv 0) pe_int (fun _ _ => rfl)) pe_int))
      (pss_cons (ps_asg (pv 3) (pg_sub (pv 0) pe_int set_list))
      (pss_cons (ps_set (i := 4) scTake.nd rfl (.inl rfl) (pe_ix ix_list (pe_lst (pa_cons pe_int (pa_cons pe_int (pa_cons pe_int (pa_cons pe_int (pa_cons pe_int (pa_cons pe_int (pa_cons pe_int pa_nil))))))))
          (pe_op op_mod (pv 3) pe_int) (fun _ _ => rfl)))
      (pss_cons (ps_set (i := 5) scTake.nd rfl (.inl rfl) (pe_op op_add (pe_op op_mod (pe_op op_mod (pe_op op_add (pe_ix ix_list (pv 0) pe_int (fun _ _ => rfl))
          (pe_op op_mul (pe_op op_mul pe_int (pv 3)) (pv 3))) (pe_op op_mul (pv 4) (pv 4))) (pv 4)) pe_int))
      (pss_one (ps_ret (pe_op op_mod (pe_op op_fdiv (pe_op op_mod (pe_op op_mul (pv 5) (pe_op op_add (pe_op op_mod (pv 5) pe_int) (pv 3))) (pv 4)) pe_int) (pv 1)))))))), ?_⟩
    have L0 : SqL K H p [.int g, .int c, .int t] := .inl (.inl hp)
    refine ⟨.ref p, rfl, p, _, 0, .int g, rfl, rfl, L0, rfl, _, _, rfl, rfl, _, rfl, ite2 (fun e => ?_) (fun e => ?_)⟩
    · refine ⟨.ref p, rfl, p, _, 0, .int g, rfl, rfl, L0, rfl, .int m, rfl, _, _, rfl, rfl, hm0, ?_⟩
      refine ⟨.ref p, rfl, p, _, 0, .int g, rfl, rfl, L0, rfl, .int m, rfl, _, _, rfl, rfl, ⟨hm0, hm1⟩, ?_⟩
      refine ⟨.ref p, rfl, p, _, 0, 0, rfl, rfl, hp, rfl, ?_⟩
      refine ⟨_, rfl, q _ _ Fr.upd ⟨_, _, _, upd_same, ht0, by omega⟩ (Int.emod_nonneg _ (by omega)) (Int.emod_lt_of_pos _ hm0)⟩
    · refine ⟨.ref p, rfl, p, _, 2, .int t, rfl, rfl, L0, rfl, _, 1, rfl, rfl, ?_⟩
      refine ⟨.int (t + 1), rfl, .ref p, rfl, p, _, 2, 2, rfl, rfl, hp, rfl, ?_⟩
      have hp2 : (upd H p (.lst (List.set [.int g, .int c, .int t] 2 (.int (t + 1))))) p = some (.lst [.int g, .int c, .int (t + 1)]) := upd_same
      refine ⟨by show 7 ≤ sizeLine; decide, fun o no => ?_⟩
      have npo : p ≠ o := ne_of_none hp2 no
      have hp3 : (upd (upd H p (.lst (List.set [.int g, .int c, .int t] 2 (.int (t + 1))))) o (.lst primes)) p = some (.lst [.int g, .int c, .int (t + 1)]) := by
        rw [upd_ne npo]
        exact hp2
      have fr3 : Fr p H (upd (upd H p (.lst (List.set [.int g, .int c, .int t] 2 (.int (t + 1))))) o (.lst primes)) := Fr.trans Fr.upd (Fr.new no)
      have L3 : SqL K (upd (upd H p (.lst (List.set [.int g, .int c, .int t] 2 (.int (t + 1))))) o (.lst primes)) p [.int g, .int c, .int (t + 1)] := .inl (.inl hp3)
      have LO : SqL K (upd (upd H p (.lst (List.set [.int g, .int c, .int t] 2 (.int (t + 1))))) o (.lst primes)) o primes := .inl (.inl upd_same)
      obtain ⟨v, hv, v0, v1⟩ := primes_at (r := (t + 1) % 7) (Int.emod_nonneg _ (by decide)) (Int.emod_lt_of_pos _ (by decide))
      have b20 : (-(2 ^ 64) : Int) < t + 1 ∧ t + 1 < 2 ^ 64 := ⟨by omega, by omega⟩
      have bv : (-(2 ^ 64) : Int) < v ∧ v < 2 ^ 64 := ⟨by omega, by omega⟩
      refine ⟨.int (t + 1), rfl, _, 7, rfl, rfl, (by show (0 : Int) < 7; decide), o, _, _, _, rfl, rfl, LO, hv, ?_⟩
      refine ⟨.ref p, rfl, p, _, 1, .int c, rfl, rfl, L3, rfl, .int (t + 1), rfl, 69621, _, rfl, rfl, .inr b20, .int (t + 1), rfl, _, _, rfl, rfl, .inr b20, _, _, rfl, rfl,
        .int v, rfl, .int v, rfl, v, v, rfl, rfl, .inl bv, _, _, rfl, rfl, (Int.mul_pos v0 v0), .int v, rfl, _, _, rfl, rfl, v0, _, 1, rfl, rfl, ?_⟩
      have z0 := Int.emod_nonneg ((c + 69621 * (t + 1) * (t + 1)) % (v * v)) (show v ≠ 0 by omega)
      have z1 := Int.emod_lt_of_pos ((c + 69621 * (t + 1) * (t + 1)) % (v * v)) v0
      generalize (c + 69621 * (t + 1) * (t + 1)) % (v * v) % v = z at z0 z1
      have bz : (-(2 ^ 64) : Int) < z + 1 ∧ z + 1 < 2 ^ 64 := ⟨by omega, by omega⟩
      refine ⟨.int (z + 1), rfl, .int (z + 1), rfl, z + 1, 1009, rfl, rfl, (by show (0 : Int) < 1009; decide), .int (t + 1), rfl, _, _, rfl, rfl, _, _, rfl, rfl, .inl bz, .int v, rfl, _, _, rfl, rfl, v0, _, 7, rfl, rfl, ⟨by decide, by decide⟩,
        .int m, rfl, _, _, rfl, rfl, hm0, ?_⟩
      exact q _ _ fr3 ⟨_, _, _, hp3, by omega, by omega⟩ (Int.emod_nonneg _ (by omega)) (Int.emod_lt_of_pos _ hm0)
end
end C2

namespace C2
set_option Elab.async false
set_option linter.all false
set_option maxRecDepth 100000
set_option maxHeartbeats 4000000
open PySem PySem.Spec PyProof.Rows L2
theorem seqAsg {ta : TE} {i : Nat} {t : TS} {D : _} {σ : L2.St} {H : Hp} (h : ta σ H fun x H1 => t D (σ.set i (some x)) H1) : tSeq (tAsg ta (gName i)) t D σ H := h
theorem tcb_run {r : List V → Hp → VK → Prop} {te : TE} {σ : L2.St} {H : Hp} {Q : VK} (h : te σ H fun x H1 => r [x] H1 Q) : tCB r (tCons te tNil) σ H Q := h
theorem gName_run {i : Nat} {v : V} {σ : L2.St} {H : Hp} {Q : L2.St → Hp → Prop} (h : Q (σ.set i (some v)) H) : gName i v σ H Q := h
theorem PotAt.mono {H : Hp} {p : Addr} {n m : Nat} (h : PotAt H p n) (l : n ≤ m) : PotAt H p m := by
  obtain ⟨g, c, t, a, b, d⟩ := h
  exact ⟨g, c, t, a, b, by omega⟩
theorem PotAt.new {H : Hp} {p t : Addr} {n : Nat} {o : HO} (h : PotAt H p n) (nt : H t = none) : PotAt (upd H t o) p n := by
  obtain ⟨g, c, u, hp, r⟩ := h
  exact ⟨g, c, u, by rw [upd_ne (ne_of_none hp nt)]; exact hp, r⟩
theorem PotAt.ne {H : Hp} {p t : Addr} {n : Nat} (h : PotAt H p n) (nt : H t = none) : t ≠ p := by
  obtain ⟨g, c, u, hp, r⟩ := h
  exact fun e => by rw [e, hp] at nt; cases nt
theorem PotAt.same {H H' : Hp} {p : Addr} {n : Nat} (h : PotAt H p n) (s : Same H H') : PotAt H' p n := by
  obtain ⟨g, c, u, hp, r⟩ := h
  exact ⟨g, c, u, s _ _ hp, r⟩
theorem PotAt.at {H : Hp} {p D : Addr} {o : HO} {n : Nat} (h : PotAt H p n) (ne : D ≠ p) : PotAt (upd H D o) p n := by
  obtain ⟨g, c, u, hp, r⟩ := h
  exact ⟨g, c, u, by rw [upd_ne ne.symm]; exact hp, r⟩
section
variable {P : Program} {w : World} {K : PySem.W.Frag} {mg : Str → Option Value} {base : Heap}
abbrev NSz : List Str := ["_law_pot_here", "_law_most", "_law_way"]
theorem scSize : FnScope NSz ["_law_pot_here", "_law_most"] (defScope sSize) := ⟨rfl, rfl, rfl, by decide +kernel, rfl, by decide +kernel, by decide +kernel⟩
/-- size: two small numbers -/
def spSize : Sp := fun vs H Q _ => ∃ (p : Addr) (m : Int) (n : Nat), vs = [.ref p, .int m] ∧ 1 ≤ m ∧ m ≤ 9 ∧ PotAt H p n ∧ n < 900000 ∧
  ∀ (a b : Nat) t H', a ≤ 10 → b ≤ 10 → Fr p H H' → PotAt H' p (n + 4) → H' t = some (.tup [.int (a : Int), .int (b : Int)]) → Q (.ref t) H'
theorem ok_size {f fT : Addr} {fd fdT : FuncData} {k : Nat} (F : Fun K "_law_size" "_law_size" sSize f fd) (FT : Fun K "_law_take" "_law_take" sTake fT fdT) (bT : Binds K fdT ["_law_pot_here", "_law_many"] []) (gT : mg "_law_take" = some (.ref fT)) :
    FnOk P w K mg base CX0 (k + 2) f fd ["_law_pot_here", "_law_most"] spSize := by
  have GT : FnOk P w K mg base CX0 (k + 1) fT fdT ["_law_pot_here", "_law_many"] spTake := ok_take FT
  refine F.ok scSize (fun vs H Q E h => ?_) (fun cdv A outer s H vs Q E hr h => ?_)
  · obtain ⟨p, m, n, rfl, _⟩ := h
    rfl
  · obtain ⟨p, m, n, rfl, m0, m1, hP, hn, q⟩ := h
    have nd := scSize.nd
    refine ⟨_, pss_cons (ps_set (i := 2) nd rfl (.inl rfl) (pe_call GT hr (by rfl) gT FT.kp bT .nil pass0 (pa_cons (pv 0) (pa_cons pe_int pa_nil))))
      (pss_cons (ps_if (pt_cmpR op_eq (pv 2) pe_int (nomark _)) (pss_one (ps_ret (pe_ix ix_list (pe_lst (pa_cons (pe_tup (pa_cons pe_int (pa_cons (pe_call GT hr (by rfl) gT FT.kp bT .nil pass0 (pa_cons (pv 0) (pa_cons pe_int pa_nil))) pa_nil))) (pa_cons (pe_tup (pa_cons (pe_call GT hr (by rfl) gT FT.kp bT .nil pass0 (pa_cons (pv 0) (pa_cons pe_int pa_nil))) (pa_cons pe_int pa_nil))) pa_nil))) (pe_call GT hr (by rfl) gT FT.kp bT .nil pass0 (pa_cons (pv 0) (pa_cons pe_int pa_nil))) (fun _ _ => rfl)))) pss_nil)
      (pss_one (ps_ret (pe_tup (pa_cons (pe_op op_add pe_int (pe_call GT hr (by rfl) gT FT.kp bT .nil pass0 (pa_cons (pv 0) (pa_cons (pv 1) pa_nil)))) (pa_cons (pe_op op_add pe_int (pe_call GT hr (by rfl) gT FT.kp bT .nil pass0 (pa_cons (pv 0) (pa_cons (pv 1) pa_nil)))) pa_nil)))))), ?_⟩
    refine ⟨.ref p, rfl, p, 8, n, rfl, hP, by omega, by decide, by decide, fun kd H1 f1 P1 k0 k1 => ?_⟩
    have fin : ∀ (x y : Int) (t : Addr) (G : Hp), 0 ≤ x → x ≤ 10 → 0 ≤ y → y ≤ 10 → Fr p H G → PotAt G p (n + 4) → G t = some (.tup [.int x, .int y]) → Q (.ref t) G := by
      intro x y t G x0 x1 y0 y1 fr pt ht
      have z := q x.toNat y.toNat t G (by omega) (by omega) fr pt
      rw [Int.toNat_of_nonneg x0, Int.toNat_of_nonneg y0] at z
      exact z ht
    refine ⟨.int kd, rfl, rfl, _, rfl, ite2 (fun e => ?_) (fun e => ?_)⟩
    · refine ⟨.ref p, rfl, p, 5, n + 1, rfl, P1, by omega, by decide, by decide, fun x H2 f2 P2 x0 x1 => ⟨by show 2 ≤ sizeLine; decide, fun t1 n1 => ?_⟩⟩
      refine ⟨.ref p, rfl, p, 5, n + 2, rfl, P2.new n1, by omega, by decide, by decide, fun y H3 f3 P3 y0 y1 => ⟨by show 2 ≤ sizeLine; decide, fun t2 n2 => ⟨by show 2 ≤ sizeLine; decide, fun l nl => ?_⟩⟩⟩
      have P4 := (P3.new (o := .tup [.int y, .int 0]) n2).new (o := .lst [.ref t1, .ref t2]) nl
      have nt1 : t1 ≠ p := P2.ne n1
      have nt2 : t2 ≠ p := P3.ne n2
      have nl' : l ≠ p := (P3.new (o := .tup [.int y, .int 0]) n2).ne nl
      have a1 := f3 _ _ nt1 (upd_same (H := H2) (a := t1) (o := .tup [.int 0, .int x]))
      have a1' := (same_upd (o := .lst [.ref t1, .ref t2]) nl) _ _ ((same_upd (o := .tup [.int y, .int 0]) n2) _ _ a1)
      have a2' := (same_upd (o := .lst [.ref t1, .ref t2]) nl) _ _ (upd_same (H := H3) (a := t2) (o := .tup [.int y, .int 0]))
      have al := upd_same (H := upd H3 t2 (.tup [.int y, .int 0])) (a := l) (o := .lst [.ref t1, .ref t2])
      have f4 : Fr p H (upd (upd H3 t2 (.tup [.int y, .int 0])) l (.lst [.ref t1, .ref t2])) := f1.trans (f2.trans ((Fr.new n1).trans (f3.trans ((Fr.new n2).trans (Fr.new nl)))))
      refine ⟨.ref p, rfl, p, 2, n + 3, rfl, P4, by omega, by decide, by decide, fun z H5 f5 P5 z0 z1 => ?_⟩
      have al5 := f5 _ _ nl' al
      have c : z = 0 ∨ z = 1 := by omega
      rcases c with rfl | rfl
      · exact ⟨l, _, _, .ref t1, rfl, rfl, .inl (.inl al5), rfl, fin 0 x t1 H5 (by decide) (by decide) x0 (by omega) (f4.trans f5) P5 (f5 _ _ nt1 a1')⟩
      · exact ⟨l, _, _, .ref t2, rfl, rfl, .inl (.inl al5), rfl, fin y 0 t2 H5 y0 (by omega) (by decide) (by decide) (f4.trans f5) P5 (f5 _ _ nt2 a2')⟩
    · refine ⟨.ref p, rfl, .int m, rfl, p, m, n + 1, rfl, P1, by omega, by omega, by omega, fun x H2 f2 P2 x0 x1 => ⟨_, _, rfl, rfl, ?_⟩⟩
      refine ⟨.ref p, rfl, .int m, rfl, p, m, n + 2, rfl, P2, by omega, by omega, by omega, fun y H3 f3 P3 y0 y1 => ⟨_, _, rfl, rfl, by show 2 ≤ sizeLine; decide, fun t nt => ?_⟩⟩
      exact fin _ _ t _ (by omega) (by omega) (by omega) (by omega) (f1.trans (f2.trans (f3.trans (Fr.new nt)))) ((P3.new nt).mono (by omega)) upd_same
end
end C2

namespace C2
set_option Elab.async false
set_option linter.all false
set_option maxRecDepth 100000
set_option maxHeartbeats 4000000
open PySem PySem.Spec PyProof.Rows L2
def rTupOf (K : PySem.W.Frag) : List V → Hp → VK → Prop := fun xs H Q => ∃ p ys, xs = [.ref p] ∧ ((SqL K H p ys ∧ ∀ l, H l = none → Q (.ref l) (upd H l (.tup ys))) ∨ (SqT K H p ys ∧ Q (.ref p) H))
/-- numbers from nought to m -/
def Upto (m : Nat) (vs : List Int) : Prop := ∀ v ∈ vs, 0 ≤ v ∧ v ≤ (m : Int)
theorem Upto.snoc {m : Nat} {vs : List Int} {v : Int} (h : Upto m vs) (h0 : 0 ≤ v) (h1 : v ≤ (m : Int)) : Upto m (vs ++ [v]) := fun x hx => by
  rcases List.mem_append.mp hx with hx | hx
  · exact h x hx
  · rw [List.mem_singleton.mp hx]
    exact ⟨h0, h1⟩
theorem Upto.set {m : Nat} {vs : List Int} {v : Int} {j : Nat} (h : Upto m vs) (h0 : 0 ≤ v) (h1 : v ≤ (m : Int)) : Upto m (vs.set j v) := fun x hx => by
  rcases List.mem_or_eq_of_mem_set hx with hx | hx
  · exact h x hx
  · rw [hx]
    exact ⟨h0, h1⟩
theorem set_ints (vs : List Int) (j : Nat) (v : Int) : (vs.map V.int).set j (.int v) = (vs.set j v).map V.int := by rw [List.map_set]
/-- a comprehension over a range, each item drawn -/
theorem lc_draw {te : TE} {ta : TA} {σ : L2.St} {H : Hp} {Q : VK} {p : Addr} {sl n len m : Nat} (hs : ∀ v, wipe ((wipe σ [sl]).set sl (some v)) [sl] = wipe σ [sl]) (hlen : len ≤ 40) (hta : ∀ R : List V → Hp → Prop, R [.int (len : Int)] H → ta σ H R) (hP : PotAt H p n)
    (hte : ∀ (j : Nat) (G : Hp) (R : VK), j < len → PotAt G p (n + 3 * j) → (∀ (d : Int) G', Fr p G G' → PotAt G' p (n + 3 * (j + 1)) → 0 ≤ d → d ≤ (m : Int) → R (.int d) G') → te ((wipe σ [sl]).set sl (some (.int (j : Int)))) G R)
    (k : ∀ D vs G, Fr p H G → PotAt G p (n + 3 * len) → H D = none → D ≠ p → G D = some (.lst (vs.map V.int)) → vs.length = len → Upto m vs → Q (.ref D) G) : tLc (iRng1 ta) (gName sl) tYes te [sl] σ H Q := by
  refine hta _ ⟨(len : Int), rfl, by omega, by omega, fun D nD => ?_⟩
  have nDp : D ≠ p := hP.ne nD
  refine lc_range (lo := 0) (n := len) (fun j G => Fr p H G ∧ PotAt G p (n + 3 * j) ∧ ∃ vs : List Int, G D = some (.lst (vs.map V.int)) ∧ vs.length = j ∧ Upto m vs) ⟨Fr.new nD, hP.new nD, [], upd_same, rfl, fun v hv => by cases hv⟩ ?_ ?_
  · rintro j G hj ⟨fr, pt, vs, hD, hl, up⟩
    rw [Int.zero_add]
    refine ⟨hs _, ?_⟩
    simp only [tYes, ↓reduceIte]
    refine hte j G _ hj pt fun d G' f P d0 d1 => ⟨_, f _ _ nDp hD, ?_, ?_, P.at nDp, vs ++ [d], ?_, ?_, up.snoc d0 d1⟩
    · rw [List.length_map, hl]
      exact Nat.lt_of_lt_of_le (show j < 1000 by omega) (by decide)
    · intro b o nb e
      rw [upd_ne (ne_of_none e nD)]
      exact f _ _ nb (fr _ _ nb e)
    · rw [upd_same, List.map_append]
      rfl
    · rw [List.length_append, hl]
      rfl
  · rintro G ⟨fr, pt, vs, hD, hl, up⟩
    exact k D vs G fr pt nD nDp hD hl up
section
variable {P : Program} {w : World} {K : PySem.W.Frag} {mg : Str → Option Value} {base : Heap}
def tTk (e : TE) : TE := tCall spTake [] E0 (tCons (tVar 0) (tCons e tNil))
def tUp (c : Nat) : TE := tTk (tOp (rI0 fun i j => V.int (i + j)) (tVar c) (tC (V.int 1)))
def teP (K : PySem.W.Frag) (c : Nat) : TE := tOp (rIxL K) (tLst (tCons (tUp c) (tCons (tOp (rI CMul fun i j => V.int (i * j)) (tVar c) (tTk (tC (V.int 2)))) tNil))) (tVar 3)
theorem tk_ok {e : TE} {σ : L2.St} {G : Hp} {R : VK} {p : Addr} {m : Int} {n : Nat} (h0 : σ[0]? = some (some (.ref p))) (he : ∀ R : VK, R (.int m) G → e σ G R) (hP : PotAt G p n) (hn : n < 1000000) (m0 : 0 < m) (m1 : m < 1000)
    (k : ∀ d G', Fr p G G' → PotAt G' p (n + 1) → 0 ≤ d → d < m → R (.int d) G') : tTk e σ G R :=
  ⟨.ref p, h0, he _ ⟨p, m, n, rfl, hP, hn, m0, by omega, k⟩⟩
theorem up_ok {c : Nat} {σ : L2.St} {G : Hp} {R : VK} {p : Addr} {a n : Nat} (h0 : σ[0]? = some (some (.ref p))) (hc : σ[c]? = some (some (.int (a : Int)))) (hP : PotAt G p n) (hn : n < 1000000) (ha : a ≤ 40)
    (k : ∀ d G', Fr p G G' → PotAt G' p (n + 1) → 0 ≤ d → d ≤ (a : Int) → R (.int d) G') : tUp c σ G R :=
  tk_ok (m := (a : Int) + 1) h0 (fun R q => ⟨.int (a : Int), hc, _, 1, rfl, rfl, q⟩) hP hn (by omega) (by omega) fun d G' f P d0 d1 => k d G' f P d0 (by omega)
theorem teP_ok {c : Nat} {σ : L2.St} {G : Hp} {R : VK} {p : Addr} {a n : Nat} {way : Int} (h0 : σ[0]? = some (some (.ref p))) (hc : σ[c]? = some (some (.int (a : Int)))) (h3 : σ[3]? = some (some (.int way))) (hw : way = 0 ∨ way = 1) (hP : PotAt G p n) (hn : n < 999000) (ha : a ≤ 40)
    (k : ∀ d G', Fr p G G' → PotAt G' p (n + 3) → 0 ≤ d → d ≤ (a : Int) → R (.int d) G') : teP K c σ G R := by
  refine up_ok h0 hc hP (by omega) ha fun d G1 f1 P1 d0 d1 => ?_
  refine ⟨.int (a : Int), hc, tk_ok (m := 2) h0 (fun R q => q) P1 (by omega) (by decide) (by decide) fun x G2 f2 P2 x0 x1 => ?_⟩
  refine ⟨_, _, rfl, rfl, .inl ⟨by omega, by omega⟩, by show 2 ≤ sizeLine; decide, fun l nl => ⟨.int way, h3, ?_⟩⟩
  have f3 : Fr p G (upd G2 l (.lst [.int d, .int ((a : Int) * x)])) := f1.trans (f2.trans (Fr.new nl))
  have P3 := (P2.new (o := .lst [.int d, .int ((a : Int) * x)]) nl).mono (show n + 1 + 1 ≤ n + 3 by omega)
  rcases hw with rfl | rfl
  · exact ⟨l, _, _, .int d, rfl, rfl, .inl (.inl upd_same), rfl, k d _ f3 P3 d0 d1⟩
  · have cx : x = 0 ∨ x = 1 := by omega
    refine ⟨l, _, _, .int ((a : Int) * x), rfl, rfl, .inl (.inl upd_same), rfl, k _ _ f3 P3 ?_ ?_⟩
    · rcases cx with rfl | rfl <;> omega
    · rcases cx with rfl | rfl <;> omega
abbrev NPk : List Str := ["_law_pot_here", "_law_wide", "_law_high", "_law_way", "_law_xs", "_law_ys", "_law_turn", "_law_j", "_law_i", "_law_x"]
theorem scPick : FnScope NPk ["_law_pot_here", "_law_wide", "_law_high"] (defScope sPick) := ⟨rfl, rfl, rfl, by decide +kernel, rfl, by decide +kernel, by decide +kernel⟩
abbrev scSpot : Scope := { kind := .function, names := [(".0", .local), ("_law_i", .cell), ("len", .globalImplicit), ("_law_xs", .cell)], isGenerator := false, isCoroutine := false }
def ttLe : TT := tTest (tOp (rI0 fun i j => V.bl (decide (i ≤ j))) (tVar 9) (tVar 8))
def teCo (K : PySem.W.Frag) : TE := tCB (fun xs H Q => ∃ p ys, xs = [.ref p] ∧ (SqL K H p ys ∨ SqT K H p ys) ∧ Q (.int (ys.length : Nat)) H) (tCons (tLc (iList K (tVar 4)) (gName 9) ttLe (tVar 9) [9]) tNil)
/-- a pick of this size stands there -/
def PickAt (G : Hp) (t : Addr) (a b : Nat) (xs ys : List Int) : Prop := ∃ tx ty, G t = some (.tup [.ref tx, .ref ty]) ∧ G tx = some (.tup (xs.map V.int)) ∧ G ty = some (.tup (ys.map V.int)) ∧ xs.length = b ∧ ys.length = a ∧ Upto a xs ∧ Upto b ys
theorem PickAt.same {G G' : Hp} {t : Addr} {a b : Nat} {xs ys : List Int} (h : PickAt G t a b xs ys) (s : Same G G') : PickAt G' t a b xs ys := by
  obtain ⟨tx, ty, h1, h2, h3, r⟩ := h
  exact ⟨tx, ty, s _ _ h1, s _ _ h2, s _ _ h3, r⟩
def spPick : Sp := fun vs H Q _ => ∃ (p : Addr) (a b n : Nat), vs = [.ref p, .int (a : Int), .int (b : Int)] ∧ a ≤ 40 ∧ b ≤ 40 ∧ PotAt H p n ∧ n < 900000 ∧
  ∀ t xs ys H', Fr p H H' → PotAt H' p (n + 300) → PickAt H' t a b xs ys → Q (.ref t) H'
def tTups (K : PySem.W.Frag) : TE := tTup (tCons (tCB (rTupOf K) (tCons (tVar 4) tNil)) (tCons (tCB (rTupOf K) (tCons (tVar 5) tNil)) tNil))
theorem tups_ok {σ : L2.St} {G : Hp} {R : VK} {lx ly : Addr} {a b : Nat} {xs ys : List Int} (h4 : σ[4]? = some (some (.ref lx))) (h5 : σ[5]? = some (some (.ref ly))) (hx : G lx = some (.lst (xs.map V.int))) (hy : G ly = some (.lst (ys.map V.int)))
    (l1 : xs.length = b) (l2 : ys.length = a) (u1 : Upto a xs) (u2 : Upto b ys) (k : ∀ t G', Same G G' → PickAt G' t a b xs ys → R (.ref t) G') : tTups K σ G R := by
  refine ⟨.ref lx, h4, lx, _, rfl, .inl ⟨.inl (.inl hx), fun t1 n1 => ?_⟩⟩
  have s1 := same_upd (o := .tup (xs.map V.int)) n1
  refine ⟨.ref ly, h5, ly, _, rfl, .inl ⟨.inl (.inl (s1 _ _ hy)), fun t2 n2 => ⟨by show 2 ≤ sizeLine; decide, fun t nt => ?_⟩⟩⟩
  have s2 := same_upd (o := .tup (ys.map V.int)) n2
  have s3 := same_upd (o := .tup [.ref t1, .ref t2]) nt
  exact k t _ (s1.trans (s2.trans s3)) ⟨t1, t2, upd_same, s3 _ _ (s2 _ _ upd_same), s3 _ _ upd_same, l1, l2, u1, u2⟩
/-! ### letters put at drawn places -/
def tMany : TA := tCons (tOp (rI CMul fun i j => V.int (i * j)) (tOp (rI0 fun i j => V.int (i - j)) (tOp (rI CDiv fun i j => V.int (i / j)) (tVar 3) (tC (V.int 2))) (tC (V.int 1))) (tOp (rI0 fun i j => V.int (i + j)) (tC (V.int 1)) (tTk (tC (V.int 2))))) tNil
def tPut (c s d : Nat) : TS := tAsg (tUp c) (gSub (tVar s) (tTk (tVar d)) rSetL)
def tElse : TS := tIfS (tTest (tOp (rI0 fun i j => V.bl (decide (j < i))) (tVar 1) (tC (V.int 0)))) (tPut 2 5 1) tNext
def tTurn : TS := tIfS (tAnd (tTest (tOp (rI0 fun i j => V.bl (decide (j < i))) (tVar 2) (tC (V.int 0)))) (tTest (tOp rEq (tTk (tC (V.int 2))) (tC (V.int 0))))) (tPut 1 4 2) tElse
def tRest (K : PySem.W.Frag) : TS := tSeq (tFor (iRng1 tMany) (gName 6) tTurn) (tRet (tTups K))
theorem put_ok {c sl d : Nat} {σ : L2.St} {G : Hp} {D : Ends} {p l : Addr} {a b n : Nat} {vs : List Int} (h0 : σ[0]? = some (some (.ref p))) (hc : σ[c]? = some (some (.int (a : Int)))) (hs : σ[sl]? = some (some (.ref l))) (hd : σ[d]? = some (some (.int (b : Int))))
    (hl : G l = some (.lst (vs.map V.int))) (lv : vs.length = b) (b0 : 0 < b) (hb : b ≤ 40) (ha : a ≤ 40) (np : l ≠ p) (hP : PotAt G p n) (hn : n < 999000) (up : Upto a vs)
    (k : ∀ ws G', G' l = some (.lst (ws.map V.int)) → ws.length = b → Upto a ws → (∀ e o, e ≠ p → e ≠ l → G e = some o → G' e = some o) → PotAt G' p (n + 2) → D.nx σ G') : tPut c sl d D σ G := by
  refine up_ok h0 hc hP (by omega) ha fun v G1 f1 P1 v0 v1 => ?_
  refine ⟨.ref l, hs, tk_ok (m := (b : Int)) h0 (fun R q => ⟨.int (b : Int), hd, q⟩) P1 (by omega) (by omega) (by omega) fun j G2 f2 P2 j0 j1 => ?_⟩
  have h2 := f2 _ _ np (f1 _ _ np hl)
  have ej : j = ((j.toNat : Nat) : Int) := by omega
  refine ⟨l, vs.map V.int, j, j.toNat, rfl, rfl, h2, ?_, ?_⟩
  · rw [List.length_map, lv]
    unfold ixN
    rw [if_pos j0, if_pos j1]
  · refine k (vs.set j.toNat v) _ ?_ (by rw [List.length_set]; exact lv) (up.set v0 v1) (fun e o ne nl he => ?_) (P2.at np)
    · rw [upd_same, set_ints]
    · rw [upd_ne nl]
      exact f2 _ _ ne (f1 _ _ ne he)
theorem rest_ok {D : Ends} {H0 G : Hp} {p lx ly : Addr} {a b n : Nat} {way : Int} {xs ys : List Int} {y6 y7 y8 y9 : Option V} (w0 : 2 ≤ way) (w1 : way < 6) (ha : a ≤ 40) (hb : b ≤ 40) (fr : Fr p H0 G) (hP : PotAt G p n) (hn : n < 990000)
    (nx : H0 lx = none) (ny : H0 ly = none) (npx : lx ≠ p) (npy : ly ≠ p) (nxy : lx ≠ ly) (hx : G lx = some (.lst (xs.map V.int))) (hy : G ly = some (.lst (ys.map V.int))) (l1 : xs.length = b) (l2 : ys.length = a) (u1 : Upto a xs) (u2 : Upto b ys)
    (k : ∀ t xs ys G', Fr p H0 G' → PotAt G' p (n + 10) → PickAt G' t a b xs ys → D.rt (.ref t) G') :
    tRest K D [some (.ref p), some (.int (a : Int)), some (.int (b : Int)), some (.int way), some (.ref lx), some (.ref ly), y6, y7, y8, y9] G := by
  have hw : way / 2 = 1 ∨ way / 2 = 2 := by omega
  refine ⟨.int way, rfl, way, 2, rfl, rfl, ⟨by decide, by decide⟩, _, 1, rfl, rfl, tk_ok (m := 2) rfl (fun R q => q) hP (by omega) (by decide) (by decide) fun d G1 f1 P1 d0 d1 => ⟨1, d, rfl, rfl, _, _, rfl, rfl, .inl ⟨by omega, by omega⟩, ?_⟩⟩
  have hm : 0 ≤ (way / 2 - 1) * (1 + d) ∧ (way / 2 - 1) * (1 + d) ≤ 2 := by rcases hw with e | e <;> rw [e] <;> omega
  obtain ⟨mm, em, hm⟩ : ∃ mm, (way / 2 - 1) * (1 + d) = mm ∧ 0 ≤ mm ∧ mm ≤ 2 := ⟨_, rfl, hm⟩
  refine ⟨mm, congrArg (fun z => [V.int z]) em, by omega, by omega, ?_⟩
  have inv0 : Fr p H0 G1 := fr.trans f1
  refine for_range (lo := 0) (n := mm.toNat) (fun i σ G' => Fr p H0 G' ∧ PotAt G' p (n + 1 + 3 * i) ∧ ∃ xs ys : List Int, G' lx = some (.lst (xs.map V.int)) ∧ G' ly = some (.lst (ys.map V.int)) ∧ xs.length = b ∧ ys.length = a ∧ Upto a xs ∧ Upto b ys ∧
    ∃ y6, σ = [some (.ref p), some (.int (a : Int)), some (.int (b : Int)), some (.int way), some (.ref lx), some (.ref ly), y6, y7, y8, y9]) ⟨inv0, P1, xs, ys, f1 _ _ npx hx, f1 _ _ npy hy, l1, l2, u1, u2, _, rfl⟩ ?_ ?_
  · rintro i σ G2 hi ⟨fr2, P2, xs2, ys2, hx2, hy2, l1, l2, u1, u2, y6, rfl⟩
    rw [Int.zero_add]
    have i2 : i < 2 := by omega
    have other : ∀ G3, Fr p H0 G3 → PotAt G3 p (n + 1 + 3 * i + 1) → G3 lx = some (.lst (xs2.map V.int)) → G3 ly = some (.lst (ys2.map V.int)) → ∀ E : Ends, (∀ σ G', (Fr p H0 G' ∧ PotAt G' p (n + 1 + 3 * (i + 1)) ∧ ∃ xs ys : List Int, G' lx = some (.lst (xs.map V.int)) ∧ G' ly = some (.lst (ys.map V.int)) ∧ xs.length = b ∧ ys.length = a ∧ Upto a xs ∧ Upto b ys ∧
        ∃ y6, σ = [some (.ref p), some (.int (a : Int)), some (.int (b : Int)), some (.int way), some (.ref lx), some (.ref ly), y6, y7, y8, y9]) → E.nx σ G') →
        tElse E [some (.ref p), some (.int (a : Int)), some (.int (b : Int)), some (.int way), some (.ref lx), some (.ref ly), some (.int (i : Int)), y7, y8, y9] G3 := by
      intro G3 fr3 P3 hx3 hy3 E fin
      refine ⟨.int (a : Int), rfl, _, _, rfl, rfl, _, rfl, ite2 (fun e => ?_) (fun e => ?_)⟩
      · have a0 : 0 < a := by
          have := of_decide_eq_true e
          omega
        refine put_ok (a := b) (b := a) (l := ly) (vs := ys2) rfl rfl rfl rfl hy3 l2 a0 ha hb npy P3 (by omega) u2 fun ws G4 h4 lw uw kp P4 => fin _ _ ⟨fun e o ne he => ?_, P4.mono (by omega), xs2, ws, kp _ _ npx nxy hx3, h4, l1, lw, u1, uw, _, rfl⟩
        exact kp e o ne (ne_of_none he ny) (fr3 e o ne he)
      · exact fin _ _ ⟨fr3, P3.mono (by omega), xs2, ys2, hx3, hy3, l1, l2, u1, u2, _, rfl⟩
    refine ⟨.int (b : Int), rfl, _, _, rfl, rfl, _, rfl, ite2 (fun e => ?_) (fun e => ?_)⟩
    · have b0 : 0 < b := by
        have := of_decide_eq_true e
        omega
      refine tk_ok (m := 2) rfl (fun R q => q) P2 (by omega) (by decide) (by decide) fun d G3 f3 P3 d0 d1 => ⟨rfl, _, rfl, ite2 (fun e2 => ?_) (fun e2 => ?_)⟩
      · refine put_ok (a := a) (b := b) (l := lx) (vs := xs2) rfl rfl rfl rfl (f3 _ _ npx hx2) l1 b0 hb ha npx P3 (by omega) u1 fun ws G4 h4 lw uw kp P4 => ⟨fun e o ne he => ?_, P4.mono (by omega), ws, ys2, h4, kp _ _ npy nxy.symm (f3 _ _ npy hy2), lw, l2, uw, u2, _, rfl⟩
        exact kp e o ne (ne_of_none he nx) (f3 _ _ ne (fr2 e o ne he))
      · exact other G3 (fr2.trans f3) P3 (f3 _ _ npx hx2) (f3 _ _ npy hy2) _ fun _ _ h => h
    · exact other G2 fr2 (P2.mono (by omega)) hx2 hy2 _ fun _ _ h => h
  · rintro σ G2 ⟨fr2, P2, xs2, ys2, hx2, hy2, l1, l2, u1, u2, y6, rfl⟩
    exact tups_ok rfl rfl hx2 hy2 l1 l2 u1 u2 fun t G3 s3 pk => k t xs2 ys2 G3 (fr2.trans (Fr.same s3)) ((P2.same s3).mono (by omega)) pk
end
end C2

namespace C2
set_option Elab.async false
set_option linter.all false
set_option maxRecDepth 100000
set_option maxHeartbeats 4000000
open PySem PySem.Spec PyProof.Rows L2
section
variable {P : Program} {w : World} {K : PySem.W.Frag} {mg : Str → Option Value} {base : Heap}
/-- how many are at most so great -/
def upCount (xs : List Int) (i : Nat) : Int := ((xs.filter fun x => decide (x ≤ (i : Int))).length : Nat)
theorem upCount_le {b : Nat} {xs : List Int} (h : xs.length = b) (i : Nat) : 0 ≤ upCount xs i ∧ upCount xs i ≤ (b : Int) := by
  unfold upCount
  have := List.length_filter_le (fun x => decide (x ≤ (i : Int))) xs
  omega
theorem ok_pick {f fT : Addr} {fd fdT : FuncData} {k : Nat} (F : Fun K "_law_pick" "_law_pick" sPick f fd) (FT : Fun K "_law_take" "_law_take" sTake fT fdT) (bT : Binds K fdT ["_law_pot_here", "_law_many"] []) (gT : mg "_law_take" = some (.ref fT))
    (mr : mg "range" = none) (mt : mg "tuple" = none) (ms : mg "sorted" = none) (ml : mg "len" = none) : FnOk P w K mg base CX0 (k + 2) f fd ["_law_pot_here", "_law_wide", "_law_high"] spPick := by
  have GT : FnOk P w K mg base CX0 (k + 1) fT fdT ["_law_pot_here", "_law_many"] spTake := ok_take FT
  refine F.ok scPick (fun vs H Q E h => ?_) (fun cdv A outer s H vs Q E hr h => ?_)
  · obtain ⟨p, a, b, n, rfl, _⟩ := h
    rfl
  · obtain ⟨p, a, b, n, rfl, ha, hb, hP, hn, q⟩ := h
    have nd := scPick.nd
    refine ⟨_, pss_cons (ps_set (i := 3) nd rfl (.inr rfl) (pe_call GT hr (by rfl) gT FT.kp bT .nil pass0 (pa_cons (pv 0) (pa_cons pe_int pa_nil))))
      (pss_cons (ps_if (pt_cmpR op_lt (pv 3) pe_int (nomark _)) (pss_cons (ps_set (i := 4) nd rfl (.inr rfl) (pe_lc (own := [("_law_j", 7)]) (g := gName 7) (tt := tYes) (te := teP K 1) rfl nd (pi_range1 (by rfl) mr (pa_cons (pv 2) pa_nil)) (blkOk_by (own := [("_law_j", 7)]) (N := NPk) (sc := defScope sPick) (by decide +kernel)) (fun _ _ _ _ _ => pg_name (i := 7) nd rfl (.inl rfl)) (fun _ _ _ _ _ => pts_nil) (fun _ _ _ _ _ => (pe_ix ix_list (pe_lst (pa_cons (pe_call GT hr (by rfl) gT FT.kp bT .nil pass0 (pa_cons (pv 0) (pa_cons (pe_op op_add (pv 1) pe_int) pa_nil))) (pa_cons (pe_op op_mul (pv 1) (pe_call GT hr (by rfl) gT FT.kp bT .nil pass0 (pa_cons (pv 0) (pa_cons pe_int pa_nil)))) pa_nil))) (pv 3) (fun _ _ => rfl)))))
      (pss_one (ps_ret (pe_tup (pa_cons (pe_callTy call_tuple_of (by rfl) mt (by decide +kernel) (pa_cons (pv 4) pa_nil)) (pa_cons (pe_callTy call_tuple_of (by rfl) mt (by decide +kernel) (pa_cons (pe_lc (own := [("_law_i", 8)]) (g := gName 8) (tt := tYes) (te := teP K 2) rfl nd (pi_range1 (by rfl) mr (pa_cons (pv 1) pa_nil)) (blkOk_by (own := [("_law_i", 8)]) (N := NPk) (sc := defScope sPick) (by decide +kernel)) (fun _ _ _ _ _ => pg_name (i := 8) nd rfl (.inl rfl)) (fun _ _ _ _ _ => pts_nil) (fun _ _ _ _ _ => (pe_ix ix_list (pe_lst (pa_cons (pe_call GT hr (by rfl) gT FT.kp bT .nil pass0 (pa_cons (pv 0) (pa_cons (pe_op op_add (pv 2) pe_int) pa_nil))) (pa_cons (pe_op op_mul (pv 2) (pe_call GT hr (by rfl) gT FT.kp bT .nil pass0 (pa_cons (pv 0) (pa_cons pe_int pa_nil)))) pa_nil))) (pv 3) (fun _ _ => rfl)))) pa_nil)) pa_nil)))))) pss_nil)
      (pss_cons (ps_set (i := 4) nd rfl (.inr rfl) (pe_callB cr_sorted (by rfl) ms (by decide +kernel) (pa_cons (pe_lc (own := [("_law_j", 7)]) (g := gName 7) (tt := tYes) (te := tUp 1) rfl nd (pi_range1 (by rfl) mr (pa_cons (pv 2) pa_nil)) (blkOk_by (own := [("_law_j", 7)]) (N := NPk) (sc := defScope sPick) (by decide +kernel)) (fun _ _ _ _ _ => pg_name (i := 7) nd rfl (.inl rfl)) (fun _ _ _ _ _ => pts_nil) (fun _ _ _ _ _ => (pe_call GT hr (by rfl) gT FT.kp bT .nil pass0 (pa_cons (pv 0) (pa_cons (pe_op op_add (pv 1) pe_int) pa_nil))))) pa_nil)))
      (pss_cons (ps_setLc (i := 5) (own := [("_law_i", 8)]) (g := gName 8) (tt := tYes) (te := teCo K) rfl nd rfl rfl (sw_true rfl rfl rfl (by decide +kernel)) (pi_range1 (by rfl) mr (pa_cons (pv 1) pa_nil)) (blkOk_by (own := [("_law_i", 8)]) (N := NPk) (sc := defScope sPick) (by decide +kernel)) (fun _ _ _ _ _ => (pg_name (i := 8) nd rfl (.inr rfl))) (fun _ _ _ _ _ => pts_nil) (fun _ _ _ _ _ => (pe_callB call_len_seq (by rfl) ml PySem.boot_len (pa_cons (pe_lc (own := [("_law_x", 9)]) (g := gName 9) (tt := ttLe) (te := tVar 9) rfl nd (pi_list (pv 4)) (blkOk_by (own := [("_law_x", 9)]) (N := NPk) (sc := scSpot) (by decide +kernel)) (fun _ _ _ _ _ => pg_name (i := 9) nd rfl (.inl rfl)) (fun _ _ _ _ _ => pts_one (pt_cmpR op_le (pv 9) (pv 8) (nomark _))) (fun _ _ _ _ _ => (pv 9))) pa_nil))))
      (pss_cons (ps_if (pt_cmpR op_eq (pe_op op_mod (pv 3) pe_int) pe_int (nomark _)) (pss_one (ps_asg (pe_tup (pa_cons (pe_lc (own := [("_law_x", 9)]) (g := gName 9) (tt := tYes) (te := tOp (rI0 fun i j => V.int (i - j)) (tVar 1) (tVar 9)) rfl nd (pi_list (pv 4)) (blkOk_by (own := [("_law_x", 9)]) (N := NPk) (sc := defScope sPick) (by decide +kernel)) (fun _ _ _ _ _ => pg_name (i := 9) nd rfl (.inl rfl)) (fun _ _ _ _ _ => pts_nil) (fun _ _ _ _ _ => (pe_op op_sub (pv 1) (pv 9)))) (pa_cons (pe_revL (pv 5)) pa_nil))) (pg_tup rfl (pgs_cons (pg_name (i := 4) nd rfl (.inr rfl)) (pgs_cons (pg_name (i := 5) nd rfl (.inl rfl)) pgs_nil))))) pss_nil)
      (pss_cons (ps_for PassesOwn.never rfl (pi_range1 (by rfl) mr (pa_cons (pe_op op_mul (pe_op op_sub (pe_op op_fdiv (pv 3) pe_int) pe_int) (pe_op op_add pe_int (pe_call GT hr (by rfl) gT FT.kp bT .nil pass0 (pa_cons (pv 0) (pa_cons pe_int pa_nil))))) pa_nil)) (pg_name (i := 6) nd rfl (.inl rfl)) (pss_one (ps_if (PW.pt (pw_and (pt_cmpR op_gt (pv 2) pe_int (nomark _)) (pw_and1 (pt_cmpR op_eq (pe_call GT hr (by rfl) gT FT.kp bT .nil pass0 (pa_cons (pv 0) (pa_cons pe_int pa_nil))) pe_int (nomark _))))) (pss_one (ps_asg (pe_call GT hr (by rfl) gT FT.kp bT .nil pass0 (pa_cons (pv 0) (pa_cons (pe_op op_add (pv 1) pe_int) pa_nil))) (pg_sub (pv 4) (pe_call GT hr (by rfl) gT FT.kp bT .nil pass0 (pa_cons (pv 0) (pa_cons (pv 2) pa_nil))) set_list))) (pss_one (ps_if (pt_cmpR op_gt (pv 1) pe_int (nomark _)) (pss_one (ps_asg (pe_call GT hr (by rfl) gT FT.kp bT .nil pass0 (pa_cons (pv 0) (pa_cons (pe_op op_add (pv 2) pe_int) pa_nil))) (pg_sub (pv 5) (pe_call GT hr (by rfl) gT FT.kp bT .nil pass0 (pa_cons (pv 0) (pa_cons (pv 1) pa_nil))) set_list))) pss_nil)))))
      (pss_one (ps_ret (pe_tup (pa_cons (pe_callTy call_tuple_of (by rfl) mt (by decide +kernel) (pa_cons (pv 4) pa_nil)) (pa_cons (pe_callTy call_tuple_of (by rfl) mt (by decide +kernel) (pa_cons (pv 5) pa_nil)) pa_nil)))))))))), ?_⟩
    refine ⟨.ref p, rfl, p, 6, n, rfl, hP, by omega, by decide, by decide, fun way H1 f1 P1 w0 w1 => ?_⟩
    refine ⟨.int way, rfl, _, _, rfl, rfl, _, rfl, ite2 (fun e => ?_) (fun e => ?_)⟩
    · have w2 : way = 0 ∨ way = 1 := by
        have := of_decide_eq_true e
        omega
      refine seqAsg (lc_draw (te := teP K 1) (sl := 7) (len := b) (m := a) (n := n + 1) (p := p) (fun v => rfl) hb (fun R h => ⟨.int (b : Int), rfl, h⟩) P1 (fun j G R hj pt kk => teP_ok (a := a) (n := n + 1 + 3 * j) (way := way) rfl rfl rfl w2 pt (by omega) ha fun d G' f P d0 d1 => kk d G' f (P.mono (by omega)) d0 d1) fun D vs G2 f2 P2 nD nDp hD l1 u1 => ?_)
      refine ⟨.ref D, rfl, D, _, rfl, .inl ⟨.inl (.inl hD), fun t1 n1 => ?_⟩⟩
      have s1 := same_upd (o := .tup (vs.map V.int)) n1
      refine tcb_run (lc_draw (te := teP K 2) (sl := 8) (len := a) (m := b) (n := n + 1 + 3 * b) (p := p) (fun v => rfl) ha (fun R h => ⟨.int (a : Int), rfl, h⟩) (P2.same s1) (fun j G R hj pt kk => teP_ok (a := b) (n := n + 1 + 3 * b + 3 * j) (way := way) rfl rfl rfl w2 pt (by omega) hb fun d G' f P d0 d1 => kk d G' f (P.mono (by omega)) d0 d1) fun D2 ws G3 f3 P3 nD2 nDp2 hD2 l2 u2 => ?_)
      refine ⟨D2, _, rfl, .inl ⟨.inl (.inl hD2), fun t2 n2 => ⟨by show 2 ≤ sizeLine; decide, fun t nt => ?_⟩⟩⟩
      have s2 := same_upd (o := .tup (ws.map V.int)) n2
      have s3 := same_upd (o := .tup [.ref t1, .ref t2]) nt
      have nt1 : t1 ≠ p := P2.ne n1
      refine q t vs ws _ (f1.trans (f2.trans ((Fr.same s1).trans (f3.trans (Fr.same (s2.trans s3)))))) (((P3.same s2).same s3).mono (by omega)) ⟨t1, t2, upd_same, s3 _ _ (s2 _ _ (f3 _ _ nt1 upd_same)), s3 _ _ upd_same, l1, l2, u1, u2⟩
    · have w2 : 2 ≤ way := by
        by_cases c : way < 2
        · exact absurd (decide_eq_true c) e
        · omega
      show tSeq (tAsg (tCB (rSorted K) (tCons (tLc (iRng1 (tCons (tVar 2) tNil)) (gName 7) tYes (tUp 1) [7]) tNil)) (gName 4)) _ _ _ _
      refine seqAsg (tcb_run (lc_draw (te := tUp 1) (sl := 7) (len := b) (m := a) (n := n + 1) (p := p) (fun v => rfl) hb (fun R h => ⟨.int (b : Int), rfl, h⟩) P1 (fun j G R hj pt kk => up_ok (a := a) (n := n + 1 + 3 * j) rfl rfl pt (by omega) ha fun d G' f P d0 d1 => kk d G' f (P.mono (by omega)) d0 d1) fun D vs G2 f2 P2 nD nDp hD l1 u1 => ?_))
      refine ⟨D, vs, rfl, .inl (.inl hD), by omega, fun xs lx pm srt nlx => ?_⟩
      have sx := same_upd (o := .lst (xs.map V.int)) nlx
      have nlxp : lx ≠ p := P2.ne nlx
      have l1' : xs.length = b := by rw [pm.length_eq, l1]
      have u1' : Upto a xs := fun v hv => u1 v (pm.mem_iff.mp hv)
      have P3 := P2.new (o := .lst (xs.map V.int)) nlx
      have f3 : Fr p H (upd G2 lx (.lst (xs.map V.int))) := f1.trans (f2.trans (Fr.same sx))
      have hx3 : (upd G2 lx (.lst (xs.map V.int))) lx = some (.lst (xs.map V.int)) := upd_same
      generalize upd G2 lx (.lst (xs.map V.int)) = G3 at P3 f3 hx3
      -- the counts
      refine ⟨.int (a : Int), rfl, (a : Int), rfl, by omega, by omega, fun ly nly => ?_⟩
      refine lc_range (lo := 0) (n := a) (fun i G => Same G3 G ∧ G ly = some (.lst (((List.range i).map fun i => upCount xs i).map V.int))) ⟨same_upd nly, upd_same⟩ ?_ ?_
      · rintro i G hi ⟨sm, hly⟩
        rw [Int.zero_add]
        have hxG := sm _ _ hx3
        refine ⟨rfl, .ref lx, rfl, lx, rfl, ⟨_, .inl (.inl hxG)⟩, fun D2 nD2 => ?_⟩
        refine lc_list (xs := xs.map V.int) (fun m G' => Same G G' ∧ G' D2 = some (.lst (((xs.take m).filter fun x => decide (x ≤ (i : Int))).map V.int))) ⟨same_upd nD2, upd_same⟩ (fun m G' _ h => .inl (.inl (h.1 _ _ hxG))) ?_ ?_
        · rintro m x G' hx ⟨s2, h2⟩
          have hm : m < xs.length := by
            have := (List.getElem?_eq_some_iff.mp hx).1
            rw [List.length_map] at this
            exact this
          have ex : x = .int xs[m] := by
            rw [List.getElem?_map, List.getElem?_eq_getElem hm] at hx
            exact (Option.some.inj hx).symm
          subst ex
          have tk : (xs.take (m + 1)).filter (fun x => decide (x ≤ (i : Int))) = (xs.take m).filter (fun x => decide (x ≤ (i : Int))) ++ if xs[m] ≤ (i : Int) then [xs[m]] else [] := by
            rw [List.take_add_one, List.getElem?_eq_getElem hm, List.filter_append]
            congr 1
            show List.filter _ [xs[m]] = _
            by_cases c : xs[m] ≤ (i : Int)
            · simp [c]
            · simp [c]
          refine ⟨rfl, .int xs[m], rfl, .int (i : Int), rfl, _, _, rfl, rfl, _, rfl, ite2 (fun c => ?_) (fun c => ?_)⟩
          · have c' := of_decide_eq_true c
            refine ⟨.int xs[m], rfl, _, h2, ?_, ?_, ?_⟩
            · rw [List.length_map]
              refine Nat.lt_of_le_of_lt (List.length_filter_le _ _) (Nat.lt_of_lt_of_le (show (xs.take m).length < 1000 by rw [List.length_take]; omega) (by decide))
            · intro b' o e'
              rw [upd_ne (ne_of_none e' nD2)]
              exact s2 _ _ e'
            · rw [upd_same, tk, if_pos c', List.map_append]
              rfl
          · have c' : ¬ xs[m] ≤ (i : Int) := fun z => c (decide_eq_true z)
            rw [tk, if_neg c', List.append_nil]
            exact ⟨s2, h2⟩
        · rintro G' ⟨s2, h2⟩
          rw [List.take_of_length_le (by rw [List.length_map]; exact Nat.le_refl _)] at h2
          refine ⟨D2, _, rfl, .inl (.inl (.inl h2)), _, s2 _ _ hly, ?_, ?_, ?_⟩
          · rw [List.length_map, List.length_map, List.length_range]
            exact Nat.lt_of_lt_of_le (show i < 1000 by omega) (by decide)
          · intro b' o e'
            rw [upd_ne (ne_of_none e' nly)]
            exact s2 _ _ (sm _ _ e')
          · rw [upd_same, List.range_succ, List.map_append, List.map_append, List.length_map]
            rfl
      · rintro G4 ⟨s4, h4⟩
        have hx4 := s4 _ _ hx3
        have P4 := P3.same s4
        have f4 := f3.trans (Fr.same s4)
        have nlyp : ly ≠ p := P3.ne nly
        have nxy : lx ≠ ly := ne_of_none hx3 nly
        have lys : ((List.range a).map fun i => upCount xs i).length = a := by rw [List.length_map, List.length_range]
        have uys : Upto b ((List.range a).map fun i => upCount xs i) := fun v hv => by
          obtain ⟨i, _, rfl⟩ := List.mem_map.mp hv
          exact upCount_le l1' i
        generalize (List.range a).map (fun i => upCount xs i) = ys at h4 lys uys
        have nH : ∀ z, z ≠ p → G3 z = none → H z = none := fun z nz h => f3.free nz h
        have nHx : H lx = none := (f1.trans f2).free nlxp nlx
        have nHy : H ly = none := nH ly nlyp nly
        refine gName_run ?_
        refine ⟨.int way, rfl, _, _, rfl, rfl, (by show (0 : Int) < 2; decide), rfl, _, rfl, ite2 (fun c => ?_) (fun c => ?_)⟩
        · refine ⟨.ref lx, rfl, lx, rfl, ⟨_, .inl (.inl hx4)⟩, fun D3 nD3 => ?_⟩
          refine lc_list (xs := xs.map V.int) (fun m G' => Same G4 G' ∧ G' D3 = some (.lst (((xs.take m).map fun x => (a : Int) - x).map V.int))) ⟨same_upd nD3, upd_same⟩ (fun m G' _ h => .inl (.inl (h.1 _ _ hx4))) ?_ ?_
          · rintro m x G' hx ⟨s5, h5⟩
            have hm : m < xs.length := by
              have := (List.getElem?_eq_some_iff.mp hx).1
              rw [List.length_map] at this
              exact this
            have ex : x = .int xs[m] := by
              rw [List.getElem?_map, List.getElem?_eq_getElem hm] at hx
              exact (Option.some.inj hx).symm
            subst ex
            refine ⟨rfl, .int (a : Int), rfl, .int xs[m], rfl, _, _, rfl, rfl, _, h5, ?_, ?_, ?_⟩
            · rw [List.length_map, List.length_map, List.length_take]
              exact Nat.lt_of_le_of_lt (Nat.min_le_left _ _) (Nat.lt_of_lt_of_le (show m < 1000 by omega) (by decide))
            · intro b' o e'
              rw [upd_ne (ne_of_none e' nD3)]
              exact s5 _ _ e'
            · rw [upd_same, List.take_add_one, List.getElem?_eq_getElem hm, List.map_append, List.map_append]
              rfl
          · rintro G5 ⟨s5, h5⟩
            rw [List.take_of_length_le (by rw [List.length_map]; exact Nat.le_refl _)] at h5
            have h4' := s5 _ _ h4
            refine ⟨.ref ly, rfl, ly, _, rfl, .inl (.inl h4'), fun D4 nD4 => ⟨by show 2 ≤ sizeLine; decide, fun T nT => ?_⟩⟩
            have s6 := same_upd (o := .lst (ys.map V.int).reverse) nD4
            have s7 := same_upd (o := .tup [.ref D3, .ref D4]) nT
            refine ⟨T, _, rfl, .inl (.inl upd_same), rfl, _, _, rfl, _, _, rfl, rfl, ?_⟩
            have s57 := s5.trans (s6.trans s7)
            have nD3p : D3 ≠ p := P4.ne nD3
            have nD4p : D4 ≠ p := (P4.same s5).ne nD4
            refine rest_ok (H0 := H) (n := n + 1 + 3 * b) (xs := xs.map fun x => (a : Int) - x) (ys := ys.reverse) w2 w1 ha hb (f4.trans (Fr.same s57)) (P4.same s57) (by omega) ((f4.free nD3p) nD3) ((f4.trans (Fr.same s5)).free nD4p nD4) nD3p nD4p (ne_of_none h5 nD4) (s7 _ _ (s6 _ _ h5)) ?_ ?_ ?_ ?_ ?_ fun t xs' ys' G' fr' pt' pk => q t xs' ys' G' fr' (pt'.mono (by omega)) pk
            · rw [← List.map_reverse] at s7 ⊢
              exact s7 _ _ (by rw [upd_same, List.map_reverse])
            · rw [List.length_map]; exact l1'
            · rw [List.length_reverse]; exact lys
            · intro v hv
              obtain ⟨x, hx, rfl⟩ := List.mem_map.mp hv
              have := u1' x hx
              omega
            · intro v hv
              exact uys v (List.mem_reverse.mp hv)
        · exact rest_ok (H0 := H) (n := n + 1 + 3 * b) w2 w1 ha hb f4 P4 (by omega) nHx nHy nlxp nlyp nxy hx4 h4 l1' lys u1' uys fun t xs' ys' G' fr' pt' pk => q t xs' ys' G' fr' (pt'.mono (by omega)) pk
end
end C2

namespace C2
set_option Elab.async false
set_option linter.all false
set_option maxRecDepth 100000
set_option maxHeartbeats 4000000
open PySem PySem.Spec PyProof.Rows L2
/-! ### zip of a list and a tuple -/
def ItLT (K : PySem.W.Frag) (a b : Addr) : It :=
  ⟨fun j G => ∃ (us vs : List V) (u v : V), SqL K G a us ∧ SqT K G b vs ∧ us[j]? = some u ∧ vs[j]? = some v,
    fun j G r G' => ∃ T u v, r = .ref T ∧ G T = none ∧ G' = upd G T (.tup [u, v]) ∧ (∀ us, SqL K G a us → us[j]? = some u) ∧ ∀ vs, SqT K G b vs → vs[j]? = some v,
    fun j G => ∃ us vs : List V, SqL K G a us ∧ SqT K G b vs ∧ j ≤ us.length ∧ j ≤ vs.length ∧ (j = us.length ∨ j = vs.length)⟩
def tnLT (a b z TI TO i1 i2 : Addr) (j : Nat) (h : Heap) : Prop :=
  IsZip h z TI TO .none ∧ IsTupOf2 h TI (.ref i1) (.ref i2) ∧ (∃ u v, IsTupOf2 h TO u v) ∧ h.IsListIter i1 a j ∧ h.IsTupleIter i2 b j
theorem in5 {c z TI TO i1 i2 : Addr} (h : c ∈ [z, TI, TO, i1, i2]) : c = z ∨ c = TI ∨ c = TO ∨ c = i1 ∨ c = i2 := by simpa using h
theorem turnLT {P : Program} {w : World} {K : PySem.W.Frag} {elts : List Expr} {kk : Nat} {tpos : Pos} {a b z TI TO i1 i2 : Addr} (S : ZipSep2 z TI TO i1 i2 [i1, a] [i2, b]) :
    Turn P w K (.Tuple elts kk tpos) (ItLT K a b) [z, TI, TO, i1, i2] z (tnLT a b z TI TO i1 i2) where
  mem := by simp
  obj := by
    rintro j h ⟨q1, q2, ⟨u, v, q3⟩, ⟨o4, q4, _, d4⟩, ⟨o5, q5, _, d5⟩⟩ c hc
    rcases in5 hc with rfl | rfl | rfl | rfl | rfl
    · exact ⟨_, q1, fun _ e => nomatch e⟩
    · exact ⟨_, q2, fun _ e => nomatch e⟩
    · exact ⟨_, q3, fun _ e => nomatch e⟩
    · exact ⟨o4, q4, fun _ e => by rw [d4] at e; cases e⟩
    · exact ⟨o5, q5, fun _ e => by rw [d5] at e; cases e⟩
  keep := by
    rintro j h h' ⟨q1, q2, ⟨u, v, q3⟩, q4, q5⟩ kp
    exact ⟨kp z (by simp) _ q1, kp TI (by simp) _ q2, ⟨u, v, kp TO (by simp) _ q3⟩, q4.at fun o e => kp i1 (by simp) o e, q5.at fun o e => kp i2 (by simp) o e⟩
  item := by
    intro X hP hw hK hc j pins s σ G E I hf st hg
    subst hP hw hK
    obtain ⟨q1, q2, ⟨u0, v0, q3⟩, q4, q5⟩ := st
    obtain ⟨us, vs, u, v, su, sv, gu, gv⟩ := hg
    obtain ⟨uits, ru, pu, _⟩ := I.list su
    obtain ⟨vits, rv, pv, _⟩ := I.tuple sv
    obtain ⟨uu, huu, ruu⟩ := ru.get gu
    obtain ⟨vv, hvv, rvv⟩ := rv.get gv
    have hd : X.A.handled = none := I.ok.hd hc
    have hzl : z < s.heap.objs.size := Heap.lt_size q1
    have ne1 : a ≠ i1 := fun e => by
      obtain ⟨o4, e4, c4, _⟩ := q4
      obtain ⟨o, oe, oc, _⟩ := pu.isList
      rw [e, e4] at oe
      cases oe
      rw [c4] at oc
      exact absurd oc (by decide)
    have ne2 : b ≠ i2 := fun e => by
      obtain ⟨o4, e4, c4, _⟩ := q5
      obtain ⟨o, oe, oc, _⟩ := pv
      rw [e, e4] at oe
      cases oe
      rw [c4] at oc
      exact absurd oc (by decide)
    have D1 := Draws.list (prog := X.prog) (w := X.w) (A := X.A.in1) hd i1 a ne1 uits.toArray
    have D2 := Draws.tuple (prog := X.prog) (w := X.w) (A := X.A.in1) hd i2 b ne2 vits.toArray
    have l1 : j < uits.toArray.size := by
      have := (List.getElem?_eq_some_iff.mp huu).1
      simpa using this
    have l2 : j < vits.toArray.size := by
      have := (List.getElem?_eq_some_iff.mp hvv).1
      simpa using this
    refine wpAny_pyNext_zipD2_item S D1 D2 q1 q2 q3 ⟨q4, pu.isList⟩ ⟨q5, pv⟩ l1 l2 fun x1 x2 h' tk e1 e2 n1 n3 n4 n5 nT nsz nk => ?_
    have ex1 : x1 = uu := Option.some.inj (e1.symm.trans (by simpa using huu))
    have ex2 : x2 = vv := Option.some.inj (e2.symm.trans (by simpa using hvv))
    subst ex1 ex2
    refine ⟨_, rfl, wpAny_letOwnedTupleGo_zip (s := { s with heap := h', toks := tk }) n1 fun h'' m1 sb => ?_⟩
    have mT : h''.get? s.heap.objs.size = some { cls := .type "tuple", data := .seq #[x1, x2] } := (sb.2 _ (Nat.ne_of_gt hzl)).trans nT
    have new : ObjOk X.prog X.w (upd G s.heap.objs.size (.tup [u, v])) h'' s.heap.objs.size (.tup [u, v]) :=
      ⟨by show 2 ≤ sizeLine; decide, [x1, x2], .cons ruu (.cons rvv .nil), ⟨_, mT, rfl, _, rfl⟩⟩
    have I1 : Inv X pins σ (upd G s.heap.objs.size (.tup [u, v])) { s with heap := h'', toks := tk } :=
      I.turnedNew (t' := tk) (ch := [z, TI, TO, i1, i2]) (fun c o hb q => (sb.2 c (fun e => hb (by simp [e]))).trans
        (nk c o (fun e => hb (by simp [e])) (fun e => hb (by simp [e])) (fun e => hb (by simp [e])) (fun e => hb (by simp [e])) q)) hf (Nat.le_refl _) new
    refine ⟨.ref s.heap.objs.size, _, I1, rfl, ⟨_, u, v, rfl, I.hok.fresh (Nat.le_refl _), rfl, fun l hl => ?_, fun l hl => ?_⟩, ⟨m1, ?_, ⟨x1, x2, ?_⟩, ?_, ?_⟩, fun c hcm => ?_⟩
    · rw [I.list_inj hl su]; exact gu
    · rw [I.tuple_inj hl sv]; exact gv
    · exact (sb.2 _ S.TIz).trans (nk _ _ S.TIz S.TITO S.TIi1 S.TIi2 q2)
    · exact (sb.2 _ S.TOz).trans n3
    · exact n4.1.at fun o e => (sb.2 _ S.zi1.symm).trans e
    · exact n5.1.at fun o e => (sb.2 _ S.zi2.symm).trans e
    · have low : c < s.heap.objs.size := by
        rcases in5 hcm with rfl | rfl | rfl | rfl | rfl
        · exact hzl
        · exact Heap.lt_size q2
        · exact Heap.lt_size q3
        · obtain ⟨_, y, _⟩ := q4; exact Heap.lt_size y
        · obtain ⟨_, y, _⟩ := q5; exact Heap.lt_size y
      rw [upd_ne (Nat.ne_of_lt low)]
      exact (hf c hcm).1
  done := by
    intro X hP hw hK hc j pins s σ G E I hf st hg
    subst hP hw hK
    obtain ⟨q1, q2, ⟨u0, v0, q3⟩, q4, q5⟩ := st
    obtain ⟨us, vs, su, sv, b1, b2, b3⟩ := hg
    obtain ⟨uits, ru, pu, _⟩ := I.list su
    obtain ⟨vits, rv, pv, _⟩ := I.tuple sv
    have hd : X.A.handled = none := I.ok.hd hc
    have ne1 : a ≠ i1 := fun e => by
      obtain ⟨o4, e4, c4, _⟩ := q4
      obtain ⟨o, oe, oc, _⟩ := pu.isList
      rw [e, e4] at oe
      cases oe
      rw [c4] at oc
      exact absurd oc (by decide)
    have ne2 : b ≠ i2 := fun e => by
      obtain ⟨o4, e4, c4, _⟩ := q5
      obtain ⟨o, oe, oc, _⟩ := pv
      rw [e, e4] at oe
      cases oe
      rw [c4] at oc
      exact absurd oc (by decide)
    have D1 := Draws.list (prog := X.prog) (w := X.w) (A := X.A.in1) hd i1 a ne1 uits.toArray
    have D2 := Draws.tuple (prog := X.prog) (w := X.w) (A := X.A.in1) hd i2 b ne2 vits.toArray
    have l1 := ru.length
    have l2 := rv.length
    refine wpAny_pyNext_zipD2_end S D1 D2 q1 q2 q3 ⟨q4, pu.isList⟩ ⟨q5, pv⟩ (by simp; omega) (by simp; omega) (by simp; omega) fun h' tk nk => ⟨rfl, ?_⟩
    exact I.turnedL (t' := tk) (ch := [z, TI, TO, i1, i2]) (fun c o hb q =>
      nk c o (fun e => hb (by simp [e])) (fun e => hb (by simp [e])) (fun e => hb (by simp [e])) (fun e => hb (by simp [e])) q) hf
  self := fun A j s Q E st h => wpAny_pyIter_zip st.1 h
def iZipLT (K : PySem.W.Frag) (ta : TA) : TI := fun σ G R => ta σ G fun vs G1 => ∃ a b us ys, vs = [.ref a, .ref b] ∧ SqL K G1 a us ∧ SqT K G1 b ys ∧ R (ItLT K a b) G1
theorem pi_zipLT {X : Cx} {e e2 : Expr} {ta : TA} {p pos tpos : Pos} {elts : List Expr} {kk : Nat} (hg : Gl X "zip") (hm : X.mg "zip" = none) (ha : PA X [e, e2] ta)
    (plainArgs : starEach [e, e2] X.env = (false, eval e X.env) :: starEach [e2] X.env := by rfl)
    (noStar : (backTo pos (starEach [e2] X.env)).any (·.1) = false := by rfl) :
    PI X (.Tuple elts kk tpos) (.Call (.Name "zip" p) [e, e2] [] pos) (iZipLT X.K ta) := by
  refine ⟨fun pins s σ G R I h => Call_ (ld_blt I hg hm PyProof.Rows.boot_zip (PyProof.Rows.callWith_type1 (thn (ha.run pos pins s σ G _ I h) fun us s1 ⟨vs, G1, I1, r1, q1⟩ => ?_) plainArgs noStar))⟩
  obtain ⟨a, b, xs, ys, rfl, sx, sy, q⟩ := q1
  cases r1 with
  | cons r rr => cases rr with
    | cons r' rr =>
      cases rr
      cases r
      cases r'
      obtain ⟨uits, ru, pu, _⟩ := I1.list sx
      obtain ⟨vits, rv, pv, _⟩ := I1.tuple sy
      obtain ⟨oa, ea, _⟩ := id pu.isList
      obtain ⟨ob, eb, _⟩ := id pv
      have S := zip_sep2 (N := s1.heap.objs.size) (fp1 := [a]) (fp2 := [b]) (fun c hc => by rw [List.mem_singleton.mp hc]; exact Heap.lt_size ea) (fun c hc => by rw [List.mem_singleton.mp hc]; exact Heap.lt_size eb)
      refine zip_begins2 (begins_list a uits.toArray) (begins_tuple b vits.toArray) pu.isList pv fun h' g1 g2 g3 g4 g5 gsz gk => wpAny_pyIter_zip g1 ?_
      refine ⟨s1.heap.objs.size + 4, [s1.heap.objs.size + 4, s1.heap.objs.size + 2, s1.heap.objs.size + 3, s1.heap.objs.size, s1.heap.objs.size + 1], _, _, G1, rfl, I1.kept (t' := s1.toks) gk, turnLT S,
        ⟨g1, g2, ⟨_, _, g3⟩, ⟨_, g4, rfl, rfl⟩, ⟨_, g5, rfl, rfl⟩⟩, fun c hc => ?_, q⟩
      have above : s1.heap.objs.size ≤ c := by
        rcases in5 hc with rfl | rfl | rfl | rfl | rfl
        · exact Nat.le_add_right _ _
        · exact Nat.le_add_right _ _
        · exact Nat.le_add_right _ _
        · exact Nat.le_refl _
        · exact Nat.le_add_right _ _
      exact I1.fpOk above (I1.hok.fresh above)
theorem walkLT {K : PySem.W.Frag} {a b : Addr} {xs ys : List V} {n : Nat} (h1 : xs.length = n) (h2 : ys.length = n) : Walk (ItLT K a b) n (fun G => SqL K G a xs ∧ SqT K G b ys) (YPair (fun i => xs[i]?) (fun i => ys[i]?)) := by
  refine ⟨fun i G hi q => ⟨xs, ys, xs[i]'(by omega), ys[i]'(by omega), q.1, q.2, List.getElem?_eq_getElem _, List.getElem?_eq_getElem _⟩, fun G q => ⟨xs, ys, q.1, q.2, by omega, by omega, by omega⟩, fun i G v G' _ q y => ?_⟩
  obtain ⟨T, u, v, e1, e2, e3, e4, e5⟩ := y
  exact ⟨T, u, v, e1, e2, e3, e4 xs q.1, e5 ys q.2⟩
/-! ### repr of data -/
def rReprD (K : PySem.W.Frag) : List V → Hp → VK → Prop := fun xs G Q => ∃ a d, xs = [.ref a] ∧ Dp K G (.ref a) d ∧ d.showable = true ∧ d.hasDict = false ∧ d.depth ≤ 60 ∧ d.shown.length ≤ sizeLine ∧ Q (.str d.shown) G
theorem call_reprD {X : Cx} (hu : X.A.units + 64 < cLine) (hgd : X.A.guards = some []) : CallR X (.builtin "repr") (rReprD X.K) := by
  intro pins s σ G xs us Q I r h
  obtain ⟨a, d, rfl, hd, s1, s2, s3, s4, q⟩ := h
  obtain ⟨given, rfl, rel⟩ := vals1 r
  obtain ⟨as, rd⟩ := Dp.reads I d _ _ hd rel
  cases rel
  refine repr_of_reads' rd s1 (fun e => by rw [s2] at e; cases e) hgd (by omega) (fun _ _ e => e) (fun h' t tk kp => ?_) s4
  exact ⟨.str d.shown, G, I.kept (t' := tk) kp, ⟨_, rfl⟩, q⟩
end C2

namespace C2
set_option Elab.async false
set_option linter.all false
set_option maxRecDepth 100000
set_option maxHeartbeats 4000000
open PySem PySem.Spec PyProof.Rows L2
/-! ### a def's promise where no repr is under way -/
structure FnG (P : Program) (w : World) (K : PySem.W.Frag) (mg : Str → Option Value) (base : Heap) (k : Nat) (f : Addr) (fd : FuncData) (ps : List Str) (sp : Sp) : Prop where
  len : ∀ vs G Q E, sp vs G Q E → vs.length = ps.length
  run : ∀ (A : Around) (outer : List Env) (s : Shared) (G : Hp) (args : Args) (us : List Value) (vs : List V) (Q : VK) (E : XK), A.guards = some [] → Room k A →
    Env0 P w K mg base A outer s G → BindsTo s fd args (ps.zip us) → Vals vs us → sp vs G Q E → codeAny (model P w) A (.call (.ref f) args) (CR CX0 outer P w G s Q E) s
section
variable {P : Program} {w : World} {K : PySem.W.Frag} {mg : Str → Option Value} {base : Heap}
theorem deeper_guards {A : Around} {env : Env} (h : A.guards = some []) : (A.deeper env).guards = some [] := h
theorem okG {x qual : Str} {st : Stmt} {f : Addr} {fd : FuncData} {N ps : List Str} {k : Nat} {sp : Sp} (F : Fun K x qual st f fd) (S : FnScope N ps (defScope st)) (len : ∀ vs G Q E, sp vs G Q E → vs.length = ps.length)
    (body : ∀ (cdv : Value) (A : Around) (outer : List Env) (s : Shared) (G : Hp) (vs : List V) (Q : VK) (E : XK), A.guards = some [] → Room k (A.deeper (envOfC qual (defScope st) s.heap.objs.size f cdv)) → sp vs G Q E →
      ∃ t, PSs (cxOf CX0 P w K mg base N qual (defScope st) f cdv A outer s G E).nox (defBody st) t ∧ t { nx := fun _ G' => Q .non G', rt := Q } (start N vs) G) : FnG P w K mg base (k + 1) f fd ps sp := by
  obtain ⟨v1, v2, v3, v4, v5, v6, cdv, v7, v8, rfl, lk, hcd⟩ := F.ex
  refine ⟨len, fun A outer s G args us vs Q E hgd hr e0 hb r hsp => ?_⟩
  have ln := len vs G Q E hsp
  have inK : K.In s.heap := e0.mod.kin.keeps fun c y e => (e0.bs c y e).left
  have noL : s.heap.NoLimit := e0.mod.nolimit.keeps fun c y e => (e0.bs c y e).left
  refine codeAny_call_function hr.depth (inK _ _ lk) rfl S.co S.gen rfl (PySem.W.codeRec_of inK hcd) (hb _ _ _ _ ?_)
  refine wpAny_newFunctionEnv_cells S.kind (fun y hy => ?_) fun env he s1 x => ?_
  · rcases S.par y.1 (List.of_mem_zip (a := y.1) (b := y.2) hy).1 with q | q
    · exact Or.inl q
    · exact Or.inr ⟨q, PySem.W.cellsFrom_some _ _ _ (Or.inl q)⟩
  · subst he
    refine ⟨noL.keeps x.toInCall.keep, codeAny_func ?_⟩
    obtain ⟨t, ht, hq⟩ := body cdv A outer s G vs Q E hgd (hr.deeper _) hsp
    have J0 := inv_start (CX := CX0) (E := E) S hr.hd e0 ln r x
    refine wpAny_mono (ht.nox.run [] s1 (start N vs) G _ J0 hq) (fun fl s' hs => ?_) fun _ _ hs => hs
    cases fl with
    | ret u =>
      obtain ⟨v, σ', G', J, rv, q⟩ := hs
      exact ⟨v, G', J.os, J.bare, J.base, J.hok, rv, q⟩
    | next =>
      obtain ⟨σ', G', J, q⟩ := hs
      exact ⟨V.non, G', J.os, J.bare, J.base, J.hok, rfl, q⟩
    | brk =>
      obtain ⟨_, _, _, q⟩ := hs
      exact q.elim
    | cont =>
      obtain ⟨_, _, _, q⟩ := hs
      exact q.elim
/-- what the law's own call leaves: True, and what stood before as it was -/
def Leaves (s₁ : Shared) : Except Value Flow → Shared → Prop := fun r s' => r = .ok (.ret (.bool true)) ∧ OldK s₁.heap s'.heap ∧
  s'.os = s₁.os ∧ AllBare s'.gens
/-- the law's own call -/
theorem law_callG {mb : Str → Option Value} {k : Nat} {fa a : Addr} {fd : FuncData} {x : Str} {sp : Sp} {s₁ : Shared} {vs : List Value} {ns : List Int}
    (inK : K.In s₁.heap) (hns : s₁.heap.Ns mainGlobals mg) (hb : s₁.heap.Ns builtinsNs mb) (hbb : ∀ x : Str, x ≠ "__name__" → mb x = bootBuiltins x) (hlim : s₁.heap.NoLimit) (hg : s₁.gens = #[])
    (hr : Room k callerA) (hl : ns.length ≤ sizeLine) (hi : IntsAre vs ns)
    (ha : s₁.heap.get? a = some { cls := .type "list", data := .seq vs.toArray })
    (F : ∀ base : Heap, K.In base → base.Ns mainGlobals mg → FnG P w K mg base k fa fd [x] sp) (hbind : ∀ (s : Shared) (u : Value), BindsTo s fd ⟨[u], []⟩ [(x, u)])
    (hsp : ∀ G : Hp, SqL K G a (ns.map V.int) → sp [.ref a] G (fun v _ => v = .bl true) fun _ _ _ => False) :
    codeAny (model P w) callerA (.call (.ref fa) ⟨[.ref a], []⟩) (Leaves s₁) s₁ := by
  have main : ∀ G : Hp, Only G → SqL K G a (ns.map V.int) → HOk P w G s₁.heap → (∀ b, G b ≠ none → b = a) → (G a ≠ none → K.lookup a = none) →
      codeAny (model P w) callerA (.call (.ref fa) ⟨[.ref a], []⟩) (Leaves s₁) s₁ := by
    intro G only sq hok one off
    have hid : ∀ {b : Addr} {y : Obj}, s₁.heap.get? b = some y → (G b = none) → (hidT s₁.heap G).get? b = some y := fun e n => hidT_get e n
    have dct : ∀ {b : Addr} {y : Obj} {es : Array DictEntry} {ep : Nat}, s₁.heap.get? b = some y → y.data = .dict es ep → G b = none := by
      intro b y es ep e d
      cases q : G b with
      | none => rfl
      | some u =>
        have z : b = a := one b (by rw [q]; exact Option.some_ne_none u)
        rw [z, ha] at e
        cases e
        exact absurd d (by intro c; cases c)
    have nsp : ∀ {b : Addr} {m : Str → Option Value}, s₁.heap.Ns b m → (hidT s₁.heap G).Ns b m := by
      rintro b m ⟨y, es, ep, e, d, r⟩
      exact ⟨y, es, ep, hid e (dct e d), d, r⟩
    have kb : K.In (hidT s₁.heap G) := by
      intro b y e
      refine hid (inK b y e) ?_
      cases q : G b with
      | none => rfl
      | some u =>
        have z : b = a := one b (by rw [q]; exact Option.some_ne_none u)
        rw [z] at q e
        rw [off (by rw [q]; exact Option.some_ne_none u)] at e
        cases e
    have md : Mod K mg (hidT s₁.heap G) := by
      refine ⟨kb, nsp hns, ⟨mb, nsp hb, hbb⟩, ?_⟩
      obtain ⟨mc, y1, y2⟩ := hlim
      exact ⟨mc, nsp y1, y2⟩
    have e0 : Env0 P w K mg (hidT s₁.heap G) callerA [] s₁ G :=
      ⟨rfl, md, fun b y e => of_hidT e, Nat.le_of_eq (hidT_size _ _), trivial, fun b z => absurd (show b ∈ ([] : List Addr) from z) List.not_mem_nil, hok, .of_eq hg⟩
    refine codeAny_mono ((F _ kb (nsp hns)).run callerA [] s₁ G ⟨[.ref a], []⟩ [.ref a] [.ref a] _ _ rfl hr e0 (hbind s₁ (.ref a)) (.cons rfl .nil) (hsp G sq)) fun r s' h => ?_
    cases r with
    | error e => exact False.elim h
    | ok fl => cases fl with
      | next => exact False.elim h
      | brk => exact False.elim h
      | cont => exact False.elim h
      | ret u =>
        obtain ⟨v, G', os, bare, un, hok', r', (q : v = .bl true)⟩ := h
        subst q
        cases (show u = Value.bool true from r')
        refine ⟨rfl, OldK.of_keep fun b y e => ?_, os, bare⟩
        cases q : G b with
        | none => exact un.keep b y e q (fun z => absurd (show b ∈ ([] : List Addr) from z) List.not_mem_nil) List.not_mem_nil
        | some u => rcases only b with z | ⟨ob, xs, z⟩
                    · rw [q] at z; cases z
                    · have f1 := (hok b _ z).1
                      have f2 := (hok' b _ (un.frzs b ob _ z)).1
                      rw [e] at f1
                      cases f1
                      exact f2
  have rv := vals_ints hi
  have ln := hi.length
  cases hk : K.lookup a with
  | some y =>
    have e := inK a y hk
    rw [ha] at e
    cases e
    exact main (fun _ => none) (fun _ => .inl rfl) (.inr ⟨_, vs.toArray, _, hk, rfl, rfl, rfl, by rw [List.size_toArray, ln]; exact hl, by simpa using rv⟩)
      (fun b u z => by cases (show (none : Option HO) = some u from z)) (fun b z => absurd rfl z) fun z => absurd rfl z
  | none =>
    obtain ⟨G, at_a, not_a⟩ : ∃ G : Hp, (∀ b, b = a → G b = some (.frz { cls := .type "list", data := .seq vs.toArray } (.lst (ns.map V.int)))) ∧ ∀ b, b ≠ a → G b = none :=
      ⟨fun b => if b = a then some (HO.frz { cls := .type "list", data := .seq vs.toArray } (.lst (ns.map V.int))) else none, fun b e => if_pos e, fun b e => if_neg e⟩
    refine main G (fun b => ?_) (.inl (.inr ⟨_, at_a a rfl⟩)) (fun b u z => ?_) (fun b z => ?_) fun _ => hk
    · by_cases c : b = a
      · exact .inr ⟨_, _, at_a b c⟩
      · exact .inl (not_a b c)
    · by_cases c : b = a
      · rw [at_a b c] at z
        cases z
        rw [c]
        refine ⟨ha, ?_, vs, _, rv, ha⟩
        rw [List.length_map]
        exact hl
      · rw [not_a b c] at z
        cases z
    · by_cases c : b = a
      · exact c
      · exact absurd (not_a b c) z
end
theorem walkG {l : PySem.W.OpenLaw} {n k : Nat} {q : Program} {loose : List Str} {XP : (Str → Option Value) → Heap → Prop} {YP : World → Heap → Prop} {d : DefRec} {K : Params → PySem.W.Frag} {sp : PySem.W.Frag → Sp} {x : Str}
    (most : l.most = some n) (short : n ≤ sizeLine) (bare : d.params.defaults = []) (room : Room k callerA)
    (stands : ∀ (w : World) (h : Heap), YP w h → (K w.params).In h)
    (promise : ∀ (w : World) (mg : Str → Option Value) (fa : Addr) (h : Heap), (K w.params).In h → h.Ns mainGlobals mg →
      mg d.name = some (.ref fa) →
      ∃ fd : FuncData, (∀ (s : Shared) (u : Value), BindsTo s fd ⟨[u], []⟩ [(x, u)]) ∧ ∀ base : Heap, (K w.params).In base → base.Ns mainGlobals mg → FnG l.prog w (K w.params) mg base k fa fd [x] (sp (K w.params)))
    (hsp : ∀ (K : PySem.W.Frag) (G : Hp) (a : Addr) (ns : List Int), ns.length ≤ n → SqL K G a (ns.map V.int) → sp K [.ref a] G (fun v _ => v = .bl true) fun _ _ _ => False) :
    PySem.W.WalkO q loose XP YP l.row.toRowW d []
      (fun f vs => PySem.call f vs) := by
  refine Att.attach_call most bare fun w _ s₁ mg mb fa _ _ _ _ a vs ns G Y _ _ _ hmg there nums few gens => ?_
  have inK := stands w _ Y
  obtain ⟨fd, binds, ok⟩ := promise w mg fa _ inK G.T.g hmg
  exact law_callG inK G.T.g G.T.b G.T.builtins G.T.nolimit gens room (Nat.le_trans few short) nums there ok binds fun H hS => hsp _ H a ns few hS
end C2

namespace C2
set_option Elab.async false
set_option linter.all false
set_option maxRecDepth 100000
set_option maxHeartbeats 4000000
open PySem PySem.Spec PyProof.Rows L2
section
variable {P : Program} {w : World} {K : PySem.W.Frag} {mg : Str → Option Value} {base : Heap}
theorem frSeq {p : Addr} {H H' : Hp} {a : Addr} {xs : List V} (e : Fr p H H') (n : a ≠ p) (h : SqL K H a xs) : SqL K H' a xs := by
  rcases h with (h | ⟨o, h⟩) | h
  · exact .inl (.inl (e _ _ n h))
  · exact .inl (.inr ⟨o, e _ _ n h⟩)
  · exact .inr h
def spOf (K : PySem.W.Frag) : Sp := fun vs H Q _ => ∃ (p a : Addr) (xs : List V) (n : Nat), vs = [.ref p, .ref a] ∧ PotAt H p n ∧ n < 1000000 ∧ a ≠ p ∧ SqL K H a xs ∧ 0 < xs.length ∧ xs.length < 1000000 ∧
  ∀ v H', Fr p H H' → PotAt H' p (n + 1) → v ∈ xs → Q v H'
theorem ok_of {f fT : Addr} {fd fdT : FuncData} {k : Nat} (F : Fun K "_law_of" "_law_of" sOf f fd) (FT : Fun K "_law_take" "_law_take" sTake fT fdT) (bT : Binds K fdT ["_law_pot_here", "_law_many"] []) (gT : mg "_law_take" = some (.ref fT)) (ml : mg "len" = none) : FnOk P w K mg base CX0 (k + 2) f fd ["_law_pot_here", "_law_some"] (spOf K) := by
  have GT : FnOk P w K mg base CX0 (k + 1) fT fdT ["_law_pot_here", "_law_many"] spTake := ok_take FT
  refine F.ok scOf (fun vs H Q E h => ?_) (fun cdv A outer s H vs Q E hr h => ?_)
  · obtain ⟨p, a, xs, n, rfl, _⟩ := h
    rfl
  · obtain ⟨p, a, xs, n, rfl, hP, hn, hap, hS, h0, h1, q⟩ := h
    refine ⟨_, pss_one (ps_ret (pe_ix ix_list (pv 1) (pe_call GT hr (by rfl) gT FT.kp bT .nil pass0 (pa_cons (pv 0) (pa_cons (pe_callB call_len_seq (by rfl) ml PySem.boot_len (pa_cons (pv 1) pa_nil)) pa_nil))) (fun _ _ => rfl))), ?_⟩
    refine ⟨.ref a, rfl, .ref p, rfl, .ref a, rfl, a, _, rfl, .inl hS, p, _, n, rfl, hP, hn, by omega, by omega, fun d H1 fr hP1 d0 d1 => ?_⟩
    have hd : d.toNat < xs.length := by omega
    have ed : d = (d.toNat : Int) := by omega
    refine ⟨a, _, d, xs[d.toNat], rfl, rfl, frSeq fr hap hS, at_of ed (List.getElem?_eq_getElem hd), ?_⟩
    exact q _ _ fr hP1 (List.getElem_mem hd)
def rLen (K : PySem.W.Frag) : List V → Hp → VK → Prop := fun xs H Q => ∃ p ys, xs = [.ref p] ∧ (SqL K H p ys ∨ SqT K H p ys) ∧ Q (.int (ys.length : Nat)) H
end
end C2

namespace C2
set_option Elab.async false
set_option linter.all false
set_option maxRecDepth 100000
set_option maxHeartbeats 4000000
open PySem PySem.Spec PyProof.Rows L2
abbrev vrefs (cs : List (Addr × List V)) : List V := cs.map fun c => V.ref c.1
def CellsV (G : Hp) (cs : List (Addr × List V)) : Prop := ∀ c ∈ cs, G c.1 = some (.tup c.2)
theorem CellsV.same {G G' : Hp} {cs : List (Addr × List V)} (h : CellsV G cs) (s : Same G G') : CellsV G' cs := fun c hc => s _ _ (h c hc)
def GrowV (xs : List (List V)) (H : Hp) (D : Addr) (G : Hp) : Prop := ∃ cs : List (Addr × List V), Same H G ∧ G D = some (.lst (vrefs cs)) ∧ CellsV G cs ∧ cs.map (·.2) = xs
theorem GrowV.step {xs : List (List V)} {y : List V} {H G G2 : Hp} {D T : Addr} (I : GrowV xs H D G) (lo : xs.length < 100000) (nD : H D = none) (sm2 : Same G G2) (nT : G T = none) (hT : G2 T = some (.tup y)) :
    ∃ acc, G2 D = some (.lst acc) ∧ acc.length < sizeLine ∧ GrowV (xs ++ [y]) H D (upd G2 D (.lst (acc ++ [.ref T]))) := by
  obtain ⟨cs, sm, hD, hcs, e⟩ := I
  have ln : cs.length < 100000 := by
    have e1 : cs.length = (cs.map (·.2)).length := (List.length_map _).symm
    rw [e1, e]
    exact lo
  have hne : T ≠ D := fun z => by rw [z, hD] at nT; cases nT
  refine ⟨vrefs cs, sm2 _ _ hD, ?_, cs ++ [(T, y)], ?_, ?_, ?_, ?_⟩
  · rw [List.length_map]
    exact Nat.lt_of_lt_of_le ln (by decide)
  · intro b o eb
    rw [upd_ne (ne_of_none eb nD)]
    exact sm2 _ _ (sm _ _ eb)
  · rw [upd_same]
    show _ = some (HO.lst (List.map _ (cs ++ [_])))
    rw [List.map_append]
    rfl
  · intro c hc
    rcases List.mem_append.mp hc with hc | hc
    · have hh := hcs c hc
      rw [upd_ne (ne_of hh hD (by intro z; cases z))]
      exact sm2 _ _ hh
    · rw [List.mem_singleton] at hc
      subst hc
      rw [upd_ne hne]
      exact hT
  · rw [List.map_append, e]
    rfl
theorem GrowV.len {xs : List (List V)} {H G : Hp} {D : Addr} (I : GrowV xs H D G) : ∃ ys, G D = some (.lst ys) ∧ ys.length = xs.length := by
  obtain ⟨cs, _, h, _, e⟩ := I
  exact ⟨_, h, by rw [List.length_map, ← e, List.length_map]⟩
theorem GrowV.ext {xs ys : List (List V)} {H G G' : Hp} {D l : Addr} (I : GrowV xs H l G) (J : GrowV ys G D G') (nl : H l = none) :
    ∃ as bs, G' l = some (.lst as) ∧ G' D = some (.lst bs) ∧ as.length = xs.length ∧ bs.length = ys.length ∧ GrowV (xs ++ ys) H l (upd G' l (.lst (as ++ bs))) := by
  obtain ⟨cs, sm, hl, hc, e⟩ := I
  obtain ⟨ds, sm2, hD, hd, e2⟩ := J
  have hl2 := sm2 _ _ hl
  refine ⟨_, _, hl2, hD, by rw [List.length_map, ← e, List.length_map], by rw [List.length_map, ← e2, List.length_map], cs ++ ds, ?_, ?_, ?_, ?_⟩
  · intro b o eb
    rw [upd_ne (ne_of_none eb nl)]
    exact sm2 _ _ (sm _ _ eb)
  · rw [upd_same]
    show _ = some (HO.lst (List.map _ (cs ++ ds)))
    rw [List.map_append]
  · intro c hcc
    rcases List.mem_append.mp hcc with hcc | hcc
    · have hh := sm2 _ _ (hc c hcc)
      rw [upd_ne (ne_of hh hl2 (by intro z; cases z))]
      exact hh
    · have hh := hd c hcc
      rw [upd_ne (ne_of hh hl2 (by intro z; cases z))]
      exact hh
  · rw [List.map_append, e, e2]
theorem getD_at {vs : List Int} {i : Nat} {x : V} (h : (vs.map V.int)[i]? = some x) : i < vs.length ∧ x = .int (vs.getD i 0) := by
  have hi : i < vs.length := by
    have := (List.getElem?_eq_some_iff.mp h).1
    rw [List.length_map] at this
    exact this
  refine ⟨hi, ?_⟩
  rw [List.getElem?_map, List.getElem?_eq_getElem hi] at h
  rw [List.getD_eq_getElem?_getD, List.getElem?_eq_getElem hi]
  exact (Option.some.inj h).symm
theorem atD {vs : List Int} {i : Nat} (hi : i < vs.length) : atI (vs.map V.int) (i : Int) = some (.int (vs.getD i 0)) := by
  refine atI_nat ?_
  rw [List.getElem?_map, List.getElem?_eq_getElem hi, List.getD_eq_getElem?_getD, List.getElem?_eq_getElem hi]
  rfl
/-- a thing: a tuple of these, or none -/
inductive Thg (G : Hp) : V → Option (List V) → Prop where
  | non : Thg G .non none
  | bl (b : Bool) : Thg G (.bl b) none
  | int (i : Int) : Thg G (.int i) none
  | str (x : Str) : Thg G (.str x) none
  | lst {a : Addr} {xs : List V} (e : G a = some (.lst xs)) : Thg G (.ref a) none
  | dK {a : Addr} {kvs : List (Key × V)} (e : G a = some (.dK kvs)) : Thg G (.ref a) none
  | tup {a : Addr} {xs : List V} (e : G a = some (.tup xs)) : Thg G (.ref a) (some xs)
theorem Thg.same {G G' : Hp} {v : V} {o : Option (List V)} (h : Thg G v o) (s : Same G G') : Thg G' v o := by
  cases h with
  | non => exact .non
  | bl b => exact .bl b
  | int i => exact .int i
  | str x => exact .str x
  | lst e => exact .lst (s _ _ e)
  | dK e => exact .dK (s _ _ e)
  | tup e => exact .tup (s _ _ e)
def isIB : V → Bool
  | .int _ => true
  | .bl _ => true
  | _ => false
def isBo : V → Bool
  | .bl _ => true
  | _ => false
def isSt : V → Bool
  | .str _ => true
  | _ => false
def isIn : V → Bool
  | .int _ => true
  | _ => false
theorem isIn_int : ∀ {v : V}, isIn v = true → ∃ i, v = .int i
  | .int i, _ => ⟨i, rfl⟩
theorem isIB_not : ∀ {v : V}, isIB v = true → (!isBo v) = isIn v
  | .int _, _ => rfl
  | .bl _, _ => rfl
theorem isIB_int : ∀ {v : V}, isIB v = true → isBo v = false → ∃ i, v = .int i
  | .int i, _, _ => ⟨i, rfl⟩
theorem isIB_no : ∀ {v : V}, ¬ isIB v = true → isIn v = false
  | .int _, e => absurd rfl e
  | .bl _, _ | .non, _ | .str _, _ | .byt _, _ | .flt _, _ | .ref _, _ | .ty _, _ => rfl
theorem isSt_str : ∀ {v : V}, isSt v = true → ∃ x, v = .str x
  | .str x, _ => ⟨x, rfl⟩
def betw : V → Int → Int → Bool
  | .int i, lo, hi => decide (lo ≤ i ∧ i ≤ hi)
  | _, _, _ => false
theorem betw_no : ∀ {v : V} {lo hi : Int}, isIn v = false → betw v lo hi = false
  | .bl _, _, _, _ | .non, _, _, _ | .str _, _, _, _ | .byt _, _, _, _ | .flt _, _, _, _ | .ref _, _, _, _ | .ty _, _, _, _ => rfl
theorem Thg.some_tup {G : Hp} {v : V} {xs : List V} (h : Thg G v (some xs)) : ∃ a, v = .ref a ∧ G a = some (.tup xs) := by
  cases h with
  | tup e => exact ⟨_, rfl, e⟩
theorem Thg.kit {K : PySem.W.Frag} {G : Hp} {v : V} {o : Option (List V)} (h : Thg G v o) : ∃ n, TyX K G v (.type n) ∧ kitB n "int" = some (isIB v) ∧ kitB n "bool" = some (isBo v) ∧ kitB n "tuple" = some o.isSome ∧ kitB n "str" = some (isSt v) := by
  cases h with
  | non => exact ⟨_, .base .non, by decide +kernel, by decide +kernel, by decide +kernel, by decide +kernel⟩
  | bl b => exact ⟨_, .base (.bl b), (by decide +kernel : kitB "bool" "int" = some true), (by decide +kernel : kitB "bool" "bool" = some true), by decide +kernel, (by decide +kernel : kitB "bool" "str" = some false)⟩
  | int i => exact ⟨_, .base (.int i), (by decide +kernel : kitB "int" "int" = some true), (by decide +kernel : kitB "int" "bool" = some false), by decide +kernel, (by decide +kernel : kitB "int" "str" = some false)⟩
  | str x => exact ⟨_, .base (.str x), (by decide +kernel : kitB "str" "int" = some false), (by decide +kernel : kitB "str" "bool" = some false), by decide +kernel, (by decide +kernel : kitB "str" "str" = some true)⟩
  | lst e => exact ⟨_, .base (.lst e), (by decide +kernel : kitB "list" "int" = some false), (by decide +kernel : kitB "list" "bool" = some false), by decide +kernel, (by decide +kernel : kitB "list" "str" = some false)⟩
  | dK e => exact ⟨_, .base (.dK e), (by decide +kernel : kitB "dict" "int" = some false), (by decide +kernel : kitB "dict" "bool" = some false), by decide +kernel, (by decide +kernel : kitB "dict" "str" = some false)⟩
  | tup e => exact ⟨_, .base (.tup e), (by decide +kernel : kitB "tuple" "int" = some false), (by decide +kernel : kitB "tuple" "bool" = some false), (by decide +kernel : kitB "tuple" "tuple" = some true), (by decide +kernel : kitB "tuple" "str" = some false)⟩
section
variable {P : Program} {w : World} {K : PySem.W.Frag} {mg : Str → Option Value} {base : Heap}
theorem scPWhole : FnScope ["thing"] ["thing"] (defScope sPWhole) := ⟨rfl, rfl, rfl, by decide +kernel, rfl, by decide +kernel, by decide +kernel⟩
theorem scBetween : FnScope ["thing", "least", "most"] ["thing", "least", "most"] (defScope sBetween) := ⟨rfl, rfl, rfl, by decide +kernel, rfl, by decide +kernel, by decide +kernel⟩
theorem scTupOf : FnScope ["thing", "many"] ["thing", "many"] (defScope sTupOf) := ⟨rfl, rfl, rfl, by decide +kernel, rfl, by decide +kernel, by decide +kernel⟩
def spPWhole : Sp := fun vs H Q _ => ∃ v o, vs = [v] ∧ Thg H v o ∧ Q (.bl (isIn v)) H
theorem ok_pwhole {f : Addr} {fd : FuncData} {k : Nat} (F : Fun K "is_whole" "is_whole" sPWhole f fd) (mi : mg "isinstance" = none) (mint : mg "int" = none) (mbool : mg "bool" = none) : FnOk P w K mg base CX0 (k + 1) f fd ["thing"] spPWhole := by
  refine F.ok scPWhole (fun vs H Q E h => ?_) (fun cdv A outer s H vs Q E hr h => ?_)
  · obtain ⟨v, o, rfl, _⟩ := h
    rfl
  · obtain ⟨v, o, rfl, t, q⟩ := h
    obtain ⟨n, ty, k1, k2, _, _⟩ := t.kit (K := K)
    refine ⟨_, pss_one (ps_ret (pe_and (pe_callB call_isi (by rfl) mi (by decide +kernel) (pa_cons (pv 0) (pa_cons (pe_bltn (v := .ty "int") (by rfl) mint (by decide +kernel) rfl) pa_nil))) (pe_one (pe_not (pe_callB call_isi (by rfl) mi (by decide +kernel) (pa_cons (pv 0) (pa_cons (pe_bltn (v := .ty "bool") (by rfl) mbool (by decide +kernel) rfl) pa_nil))))))), ?_⟩
    refine ⟨v, rfl, v, .ty "int", _, _, _, rfl, .ty "int", ty, kit_ty k1, _, rfl, ite2 (fun e => ?_) (fun e => ?_)⟩
    · refine ⟨v, rfl, v, .ty "bool", _, _, _, rfl, .ty "bool", ty, kit_ty k2, _, rfl, ?_⟩
      have z : (!isBo v) = isIn v := isIB_not e
      show Q (V.bl (!isBo v)) H
      rw [z]
      exact q
    · have z : false = isIn v := (isIB_no e).symm
      show Q (V.bl false) H
      rw [z]
      exact q
def spBetween : Sp := fun vs H Q _ => ∃ v o lo hi, vs = [v, .int lo, .int hi] ∧ Thg H v o ∧ Q (.bl (betw v lo hi)) H
theorem ok_between {f fW : Addr} {fd fdW : FuncData} {k : Nat} (F : Fun K "is_between" "is_between" sBetween f fd) (FW : Fun K "is_whole" "is_whole" sPWhole fW fdW) (bW : Binds K fdW ["thing"] []) (gW : mg "is_whole" = some (.ref fW)) (mi : mg "isinstance" = none) (mint : mg "int" = none) (mbool : mg "bool" = none) : FnOk P w K mg base CX0 (k + 2) f fd ["thing", "least", "most"] spBetween := by
  have GW : FnOk P w K mg base CX0 (k + 1) fW fdW ["thing"] spPWhole := ok_pwhole FW mi mint mbool
  refine F.ok scBetween (fun vs H Q E h => ?_) (fun cdv A outer s H vs Q E hr h => ?_)
  · obtain ⟨v, o, lo, hi, rfl, _⟩ := h
    rfl
  · obtain ⟨v, o, lo, hi, rfl, t, q⟩ := h
    refine ⟨_, pss_one (ps_ret (pe_and (pe_call GW hr (by rfl) gW FW.kp bW .nil pass0 (pa_cons (pv 0) pa_nil)) (pe_one (pe_chain op_le op_le (pv 1) (pv 0) (pv 2))))), ?_⟩
    refine ⟨v, rfl, v, o, rfl, t, _, rfl, ite2 (fun e => ?_) (fun e => ?_)⟩
    · obtain ⟨i, rfl⟩ := isIn_int e
      refine ⟨.int lo, rfl, .int i, rfl, lo, i, rfl, rfl, _, rfl, ite2 (fun e1 => ?_) (fun e1 => ?_)⟩
      · refine ⟨.int hi, rfl, i, hi, rfl, rfl, ?_⟩
        have e2 := of_decide_eq_true e1
        have z : decide (i ≤ hi) = betw (.int i) lo hi := by
          show _ = decide (_ ∧ _)
          by_cases y : i ≤ hi <;> simp [y, e2]
        show Q (V.bl (decide (i ≤ hi))) H
        rw [z]
        exact q
      · have e2 : ¬ lo ≤ i := fun y => e1 (decide_eq_true y)
        have z : false = betw (.int i) lo hi := by
          show _ = decide (_ ∧ _)
          rw [decide_eq_false (by omega)]
        show Q (V.bl false) H
        rw [z]
        exact q
    · have z : false = betw v lo hi := (betw_no (Bool.eq_false_iff.mpr e)).symm
      show Q (V.bl false) H
      rw [z]
      exact q
def lenIs (o : Option (List V)) (m : Int) : Bool := match o with
  | some xs => decide ((xs.length : Int) = m)
  | none => false
def spTupOf : Sp := fun vs H Q _ => ∃ v o m, vs = [v, .int m] ∧ Thg H v o ∧ Q (.bl (lenIs o m)) H
theorem ok_tupOf {f : Addr} {fd : FuncData} {k : Nat} (F : Fun K "is_tuple_of" "is_tuple_of" sTupOf f fd) (mi : mg "isinstance" = none) (mtup : mg "tuple" = none) (ml : mg "len" = none) : FnOk P w K mg base CX0 (k + 1) f fd ["thing", "many"] spTupOf := by
  refine F.ok scTupOf (fun vs H Q E h => ?_) (fun cdv A outer s H vs Q E hr h => ?_)
  · obtain ⟨v, o, m, rfl, _⟩ := h
    rfl
  · obtain ⟨v, o, m, rfl, t, q⟩ := h
    obtain ⟨n, ty, _, _, k3, _⟩ := t.kit (K := K)
    refine ⟨_, pss_one (ps_ret (pe_and (pe_callB call_isi (by rfl) mi (by decide +kernel) (pa_cons (pv 0) (pa_cons (pe_bltn (v := .ty "tuple") (by rfl) mtup (by decide +kernel) rfl) pa_nil))) (pe_one (pe_cmpR op_eq (pe_callB call_len_seq (by rfl) ml (by decide +kernel) (pa_cons (pv 0) pa_nil)) (pv 1) (nomark _))))), ?_⟩
    refine ⟨v, rfl, v, .ty "tuple", _, _, _, rfl, .ty "tuple", ty, kit_ty k3, _, rfl, ite2 (fun e => ?_) (fun e => ?_)⟩
    · obtain ⟨xs, rfl⟩ : ∃ xs, o = some xs := by
        cases o with
        | none => cases (show false = true from e)
        | some xs => exact ⟨xs, rfl⟩
      obtain ⟨a, rfl, ea⟩ := t.some_tup
      refine ⟨.ref a, rfl, a, xs, rfl, .inr (.inl (.inl ea)), .int m, rfl, rfl, ?_⟩
      have z : decide (V.int (xs.length : Nat) = V.int m) = lenIs (some xs) m := by
        show _ = decide _
        by_cases y : (xs.length : Int) = m <;> simp [y]
      rw [z]
      exact q
    · have z : false = lenIs o m := by
        cases o with
        | none => rfl
        | some xs => exact absurd rfl e
      show Q (V.bl false) H
      rw [z]
      exact q
end
end C2

namespace C2
set_option Elab.async false
set_option linter.all false
set_option maxRecDepth 100000
set_option maxHeartbeats 1000000
open PySem PySem.Spec PyProof.Rows L2
/-! ### things: data of any kind -/
/-- all that was tracked, but what stands in E, is as it was -/
def FrX (E : Addr → Prop) (H H' : Hp) : Prop := ∀ b o, ¬ E b → H b = some o → H' b = some o
theorem FrX.same {E : Addr → Prop} {H H' : Hp} (s : Same H H') : FrX E H H' := fun b o _ h => s b o h
theorem FrX.one {p : Addr} {H H' : Hp} (f : Fr p H H') : FrX (· = p) H H' := f
mutual
/-- the thing v holds the data d, and no part of it stands in E -/
inductive Dq (E : Addr → Prop) (H : Hp) : V → PyData → Prop
  | non : Dq E H .non .none
  | bl (b : Bool) : Dq E H (.bl b) (.bool b)
  | int (i : Int) : Dq E H (.int i) (.int i)
  | str (x : Str) : Dq E H (.str x) (.str x)
  | lst {a : Addr} {xs : List V} {ds : List PyData} (e : H a = some (.lst xs)) (n : ¬ E a) (h : DqAll E H xs ds) : Dq E H (.ref a) (.list ds)
  | tup {a : Addr} {xs : List V} {ds : List PyData} (e : H a = some (.tup xs)) (n : ¬ E a) (h : DqAll E H xs ds) : Dq E H (.ref a) (.tuple ds)
inductive DqAll (E : Addr → Prop) (H : Hp) : List V → List PyData → Prop
  | nil : DqAll E H [] []
  | cons {v : V} {vs : List V} {d : PyData} {ds : List PyData} (h : Dq E H v d) (t : DqAll E H vs ds) : DqAll E H (v :: vs) (d :: ds)
end
mutual
theorem Dq.fr {E : Addr → Prop} {H H' : Hp} (f : FrX E H H') : ∀ (d : PyData) {v : V}, Dq E H v d → Dq E H' v d
  | .none, _, h => by cases h; exact .non
  | .bool b, _, h => by cases h; exact .bl b
  | .int i, _, h => by cases h; exact .int i
  | .str x, _, h => by cases h; exact .str x
  | .list ds, _, h => by
    cases h with
    | lst e n t => exact .lst (f _ _ n e) n (DqAll.fr f ds t)
  | .tuple ds, _, h => by
    cases h with
    | tup e n t => exact .tup (f _ _ n e) n (DqAll.fr f ds t)
  | .dict kvs, _, h => by cases h
theorem DqAll.fr {E : Addr → Prop} {H H' : Hp} (f : FrX E H H') : ∀ (ds : List PyData) {vs : List V}, DqAll E H vs ds → DqAll E H' vs ds
  | [], _, h => by cases h; exact .nil
  | d :: ds, _, h => by
    cases h with
    | cons x t => exact .cons (Dq.fr f d x) (DqAll.fr f ds t)
end
theorem DqAll.len {E : Addr → Prop} {H : Hp} : ∀ {ds : List PyData} {vs : List V}, DqAll E H vs ds → vs.length = ds.length
  | [], _, h => by cases h; rfl
  | d :: ds, _, h => by
    cases h with
    | cons x t => rw [List.length_cons, List.length_cons, DqAll.len t]
theorem DqAll.app {E : Addr → Prop} {H : Hp} : ∀ {ds es : List PyData} {vs ws : List V}, DqAll E H vs ds → DqAll E H ws es → DqAll E H (vs ++ ws) (ds ++ es)
  | [], _, _, _, h, t => by cases h; exact t
  | d :: ds, _, _, _, h, t => by
    cases h with
    | cons x y => exact .cons x (DqAll.app y t)
theorem DqAll.nth {E : Addr → Prop} {H : Hp} : ∀ {ds : List PyData} {vs : List V} {v : V}, DqAll E H vs ds → v ∈ vs → ∃ d, d ∈ ds ∧ Dq E H v d
  | [], _, _, h, e => by cases h; cases e
  | d :: ds, _, v, h, e => by
    cases h with
    | cons x y =>
      rcases List.mem_cons.mp e with rfl | e
      · exact ⟨d, List.mem_cons_self, x⟩
      · obtain ⟨d', h1, h2⟩ := DqAll.nth y e
        exact ⟨d', List.mem_cons_of_mem _ h1, h2⟩
theorem DqAll.take {E : Addr → Prop} {H : Hp} : ∀ {ds : List PyData} {vs : List V} (n : Nat), DqAll E H vs ds → DqAll E H (vs.take n) (ds.take n)
  | [], _, n, h => by cases h; simp; exact .nil
  | d :: ds, _, 0, h => .nil
  | d :: ds, _, n + 1, h => by
    cases h with
    | cons x y => exact .cons x (DqAll.take n y)
theorem DqAll.drop {E : Addr → Prop} {H : Hp} : ∀ {ds : List PyData} {vs : List V} (n : Nat), DqAll E H vs ds → DqAll E H (vs.drop n) (ds.drop n)
  | [], _, n, h => by cases h; simp; exact .nil
  | d :: ds, _, 0, h => h
  | d :: ds, _, n + 1, h => by
    cases h with
    | cons x y => exact DqAll.drop n y
theorem DqAll.rev {E : Addr → Prop} {H : Hp} : ∀ {ds : List PyData} {vs : List V}, DqAll E H vs ds → DqAll E H vs.reverse ds.reverse
  | [], _, h => by cases h; exact .nil
  | d :: ds, _, h => by
    cases h with
    | cons x y =>
      rw [List.reverse_cons, List.reverse_cons]
      exact (DqAll.rev y).app (.cons x .nil)
theorem DqAll.ints {E : Addr → Prop} {H : Hp} : ∀ vs : List Int, DqAll E H (vs.map V.int) (vs.map PyData.int)
  | [] => .nil
  | v :: r => .cons (.int v) (DqAll.ints r)
/-- a thing and its items -/
theorem Dq.thg {E : Addr → Prop} {H : Hp} {v : V} {d : PyData} (h : Dq E H v d) : ∃ o, Thg H v o ∧ ∀ xs, o = some xs → ∃ ds, d = .tuple ds ∧ DqAll E H xs ds := by
  cases h with
  | non => exact ⟨none, .non, fun _ e => nomatch e⟩
  | bl b => exact ⟨none, .bl b, fun _ e => nomatch e⟩
  | int i => exact ⟨none, .int i, fun _ e => nomatch e⟩
  | str x => exact ⟨none, .str x, fun _ e => nomatch e⟩
  | lst e n t => exact ⟨none, .lst e, fun _ e => nomatch e⟩
  | tup e n t => exact ⟨_, .tup e, fun xs e => by cases e; exact ⟨_, rfl, t⟩⟩
section
variable {X : Cx} {pins : List (Addr × Obj)} {σ : L2.St} {H : Hp} {s : Shared}
mutual
theorem Dq.reads {E : Addr → Prop} (I : Inv X pins σ H s) : ∀ (d : PyData) {v : V} {u : Value}, Dq E H v d → RelV v u → ∃ as, Reads s.heap u d as
  | .none, _, _, h, r => by cases h; cases r; exact ⟨[], .none⟩
  | .bool b, _, _, h, r => by cases h; cases r; exact ⟨[], .bool b⟩
  | .int i, _, _, h, r => by
    cases h
    obtain ⟨t, rfl⟩ := r
    exact ⟨[], .int i t⟩
  | .str x, _, _, h, r => by
    cases h
    obtain ⟨t, rfl⟩ := r
    exact ⟨[], .str x t⟩
  | .list ds, _, _, h, r => by
    cases h with
    | lst e n t =>
      cases r
      obtain ⟨us, rv, ⟨ob, m, g, c, _, dt⟩, _⟩ := I.list (.inl (.inl e))
      obtain ⟨as, rd⟩ := DqAll.reads I ds t rv
      exact ⟨_, .list g c dt rd⟩
  | .tuple ds, _, _, h, r => by
    cases h with
    | tup e n t =>
      cases r
      obtain ⟨us, rv, ⟨ob, g, c, m, dt⟩, _⟩ := I.tuple (.inl (.inl e))
      obtain ⟨as, rd⟩ := DqAll.reads I ds t rv
      exact ⟨_, .tuple g c dt rd⟩
  | .dict kvs, _, _, h, r => by cases h
theorem DqAll.reads {E : Addr → Prop} (I : Inv X pins σ H s) : ∀ (ds : List PyData) {vs : List V} {us : List Value}, DqAll E H vs ds → Vals vs us → ∃ as, ReadsAll s.heap us ds as
  | [], _, _, h, r => by cases h; cases r; exact ⟨[], .nil⟩
  | d :: ds, _, _, h, r => by
    cases h with
    | cons x t =>
      cases r with
      | cons rx rt =>
        obtain ⟨as, a1⟩ := Dq.reads I d x rx
        obtain ⟨bs, b1⟩ := DqAll.reads I ds t rt
        exact ⟨_, .cons a1 b1⟩
end
/-- repr of a thing, or of an empty dict -/
def rReprQ : List V → Hp → VK → Prop := fun xs G Q => (∃ (E : Addr → Prop) (v : V) (d : PyData), xs = [v] ∧ Dq E G v d ∧ d.showable = true ∧ d.hasDict = false ∧ d.depth ≤ 60 ∧ d.shown.length ≤ sizeLine ∧ Q (.str d.shown) G) ∨
  ∃ a, xs = [.ref a] ∧ G a = some (.dK []) ∧ Q (.str (PyData.dict []).shown) G
theorem call_reprQ (room : X.A.units + 64 < cLine) (hgd : X.A.guards = some []) : CallR X (.builtin "repr") rReprQ := by
  intro pins s σ G xs us Q I r h
  rcases h with ⟨p, v, d, rfl, hd, sh, nod, dp, ln, q⟩ | ⟨a, rfl, e, q⟩
  rotate_left
  · obtain ⟨u, rfl, rel⟩ := vals1 r
    cases rel
    obtain ⟨_, ns, vs, kv, o, es, ep, g, xd, dt, _, prs, _⟩ := dk_of I.hok e
    cases kv
    have e0 : es.toList = [] := by
      cases q : es.toList with
      | nil => rfl
      | cons y ys => rw [q] at prs; cases prs
    have rd : Reads s.heap (.ref a) (.dict []) ([a] ++ [] ++ []) := .dict (kvs := []) (as := []) (bs := []) g xd.1 dt (by rw [e0]; exact .nil) (by rw [e0]; exact .nil)
    have d2 : PyData.depth (.dict []) ≤ 2 := by decide
    refine repr_of_reads' rd (by decide) (fun _ z => ?_) hgd (by omega) (fun _ _ e => e) (fun h' t tk kp => ⟨.str _, G, I.kept (t' := tk) kp, ⟨_, rfl⟩, q⟩) (by decide)
    simp at z
    exact beq_eq_false_iff_ne.mp ns z.symm
  obtain ⟨u, rfl, rel⟩ := vals1 r
  cases d with
  | none =>
    cases hd
    cases rel
    exact PySem.P.repr_of_none ⟨.str "None", G, I.tok _, ⟨_, rfl⟩, q⟩
  | bool b =>
    cases hd
    cases rel
    refine PySem.P.repr_of_bool ⟨.str (if b then "True" else "False"), G, I.tok _, ⟨_, rfl⟩, ?_⟩
    cases b <;> exact q
  | int i =>
    cases hd
    obtain ⟨t, rfl⟩ := rel
    exact PySem.P.repr_of_int (of_decide_eq_true sh) ⟨.str (toString i), G, I.tok _, ⟨_, rfl⟩, q⟩
  | str x =>
    cases hd
    obtain ⟨t, rfl⟩ := rel
    exact PySem.P.repr_of_str ⟨.str (reprText x), G, I.tok _, ⟨_, rfl⟩, q⟩ ln
  | list ds =>
    obtain ⟨as, rd⟩ := Dq.reads I _ hd rel
    cases hd
    cases rel
    exact repr_of_reads' rd sh (fun z => by rw [nod] at z; cases z) hgd (by omega) (fun _ _ e => e) (fun h' t tk kp => ⟨.str _, G, I.kept (t' := tk) kp, ⟨_, rfl⟩, q⟩) ln
  | tuple ds =>
    obtain ⟨as, rd⟩ := Dq.reads I _ hd rel
    cases hd
    cases rel
    exact repr_of_reads' rd sh (fun z => by rw [nod] at z; cases z) hgd (by omega) (fun _ _ e => e) (fun h' t tk kp => ⟨.str _, G, I.kept (t' := tk) kp, ⟨_, rfl⟩, q⟩) ln
  | dict kvs => cases hd
end
end C2

namespace C2
set_option Elab.async false
set_option linter.all false
set_option maxRecDepth 100000
set_option maxHeartbeats 1000000
open PySem PySem.Spec PyProof.Rows L2 HT
/-! ### t[::-1] -/
theorem adjust_back (n : Nat) : Builtin.Slice.sliceAdjust none none (-1) (n : Int) = ((n : Int) - 1, -1) := rfl
theorem places_back (n : Nat) : Builtin.Slice.slicePlaces ((n : Int) - 1) (-1) (-1) = n := by
  unfold Builtin.Slice.slicePlaces
  rw [if_neg (by decide)]
  by_cases h : n = 0
  · subst h; rfl
  · rw [if_pos (by omega)]
    simp only [Int.neg_neg, Int.ediv_one]
    omega
theorem fm_congr {α β : Type} {f g : α → Option β} : ∀ {l : List α}, (∀ x ∈ l, f x = g x) → l.filterMap f = l.filterMap g
  | [], _ => rfl
  | x :: l, h => by rw [List.filterMap_cons, List.filterMap_cons, h x List.mem_cons_self, fm_congr fun y hy => h y (List.mem_cons_of_mem _ hy)]
theorem pick_back (us : List Value) : ((List.range us.length).filterMap fun k : Nat => us.toArray[((us.length : Int) - 1 + (k : Int) * (-1)).toNat]?).toArray = us.reverse.toArray := by
  congr 1
  have one : (List.range us.length).filterMap (fun k : Nat => us.toArray[((us.length : Int) - 1 + (k : Int) * (-1)).toNat]?) = ((List.range us.length).map fun k => us.length - 1 - k).filterMap (us.toArray[·]?) := by
    rw [List.filterMap_map]
    refine fm_congr fun k hk => ?_
    have := List.mem_range.mp hk
    show us.toArray[_]? = us.toArray[_]?
    rw [show ((us.length : Int) - 1 + (k : Int) * (-1)).toNat = us.length - 1 - k by omega]
  rw [one, PySem.W.krv_range, List.filterMap_reverse]
  have all := PySem.W.krv_all us.toArray
  rw [List.size_toArray] at all
  rw [all]
section
variable {prog : Program} {w : World} {A : Around} {E : Value → Shared → Prop} {s : Shared}
theorem applied_back {sl : Addr} {low top step : Value} {n : Nat} {Q : Int × Int × Nat → Shared → Prop} (hs : s.heap.IsSliceOf sl low top step) (pl : IsPart low none) (pt : IsPart top none) (ps : IsPart step (some (-1)))
    (fin : Q ((n : Int) - 1, -1, n) s) : wpAny (model prog w) A (Builtin.Slice.sliceApplied (.ref sl) (pure (n : Int))) Q E s := by
  obtain ⟨ob, at_, _, dat⟩ := id hs
  have three : ∀ {R : Value × Value × Value → Shared → Prop}, R (low, top, step) s → wpAny (model prog w) A (Builtin.Slice.sliceFields (.ref sl)) R E s := fun h =>
    wpAny_bind (wpAny_field at_ dat (x := low) rfl (wpAny_bind (wpAny_field at_ dat (x := top) rfl (wpAny_bind (wpAny_field at_ dat (x := step) rfl (wpAny_pure h))))))
  refine wpAny_bind (three (wpAny_bind (slicePart_ ps ?_)))
  show wpAny _ _ (if ((-1 : Int) == 0) = true then _ else _) _ _ _
  rw [if_neg (by decide)]
  refine wpAny_bind (slicePart_ pl (wpAny_bind (slicePart_ pt (wpAny_bind (wpAny_pure ?_)))))
  show wpAny _ _ (match Builtin.Slice.sliceAdjust none none (-1) (n : Int) with | (lo, hi) => pure (lo, (-1 : Int), Builtin.Slice.slicePlaces lo hi (-1))) _ _ _
  rw [adjust_back]
  show wpAny _ _ (pure ((n : Int) - 1, (-1 : Int), Builtin.Slice.slicePlaces ((n : Int) - 1) (-1) (-1))) _ _ _
  rw [places_back]
  exact wpAny_pure fin
theorem back_tup {t sl : Addr} {us : List Value} {low top step : Value} {Q : Value → Shared → Prop} (tup : IsTup s.heap t us.toArray) (hs : s.heap.IsSliceOf sl low top step) (pl : IsPart low none) (pt : IsPart top none) (ps : IsPart step (some (-1)))
    (fin : Q (.ref s.heap.objs.size) { s with heap := s.heap.push { cls := .type "tuple", data := .seq us.reverse.toArray } }) (few : us.length ≤ sizeLine) : wpAny (model prog w) A (getItem (.ref t) (.ref sl)) Q E s := by
  have lay : sizeOk (.seq us.reverse.toArray) := by
    show us.reverse.toArray.size ≤ sizeLine
    rw [List.size_toArray, List.length_reverse]
    exact few
  have isSl : s.TypeIs (.ref sl) "slice" := by
    obtain ⟨ob, at_, kind, _⟩ := id hs
    exact ⟨ob, at_, kind⟩
  unfold getItem
  refine wpAny_holding (wpAny_bind (wpAny_sequenceKey tup.typeIs (by decide) (wpAny_bind (wpAny_callSpecial?_slot (name := Str.ofString "__getitem__") tup.typeIs PyProof.Rows.slot_tuple_getitem (wpAny_call_entry PyProof.Rows.slot_tuple_getitem tup.typeIs entry_tuple_getitem ?_ (args_tuple_getitem _ _))))))
  show wpAny _ _ (Builtin.Tuple.tupleItemsOf (.ref t) >>= _) _ _ _
  refine wpAny_bind (tupleItemsOf_ tup (wpAny_bind (wpAny_typeOf isSl ?_)))
  rw [if_pos (by decide)]
  have sz : us.toArray.size = us.length := List.size_toArray
  rw [sz]
  refine wpAny_bind (applied_back (n := us.length) hs pl pt ps ?_)
  have no : ¬ (((us.length : Int) - 1 == 0 && (-1 : Int) == 1 && us.length == us.length) = true) := fun z => by
    rw [Bool.and_eq_true, Bool.and_eq_true] at z
    exact absurd z.1.2 (by decide)
  show wpAny _ _ (if ((us.length : Int) - 1 == 0 && (-1 : Int) == 1 && us.length == us.length) = true then _ else _) _ _ _
  rw [if_neg no, pick_back]
  exact wpAny_bind (m := Builtin.Tuple.tupleExact _) (wpAny_newObj_type (wpAny_pure ⟨_, rfl, wpAny_pure fin⟩) lay)
end
section
variable {X : Cx}
/-- t[::-1], t a tuple -/
def tBackT (K : PySem.W.Frag) (te : TE) : TE := fun σ H Q => te σ H fun x H1 => ∃ a xs, x = .ref a ∧ SqT K H1 a xs ∧ ∀ p, H1 p = none → Q (.ref p) (upd H1 p (.tup xs.reverse))
theorem pe_backT {e : Expr} {te : TE} {k : Nat} {p1 p2 p3 pos : Pos} (he : PE X e te) : PE X (.Subscript e (.Slice none none (some (.UnaryOp .USub (.Constant (.int 1) k p1) p2)) p3) pos) (tBackT X.K te) := by
  refine ⟨fun pins s0 σ H Q I0 h => Subscript_ (thn (he.run pins s0 σ H _ I0 h) fun v1 s1 ⟨x, H1, I1, r1, a, xs, ex, sq, q⟩ => ?_)⟩
  subst ex
  cases r1
  refine wpAny_Slice (thn (po_none.run pins s1 σ H1 (fun o G => o = none ∧ G = H1) I1 ⟨rfl, rfl⟩) ?_)
  rintro low s2 ⟨_, G2, I2, plow, rfl, e2⟩
  subst e2
  refine thn (po_none.run pins s2 σ G2 (fun o G => o = none ∧ G = G2) I2 ⟨rfl, rfl⟩) ?_
  rintro top s3 ⟨_, G3, I3, ptop, rfl, e3⟩
  subst e3
  refine thn ((po_some (pe_un un_neg pe_int)).run pins s3 σ G3 (fun o G => o = some (-1) ∧ G = G3) I3 ⟨1, rfl, -1, rfl, rfl, rfl⟩) ?_
  rintro step s4 ⟨o, G4, I4, pstep, rfl, e4⟩
  subst e4
  have I5 := I4.kept (h' := s4.heap.push { cls := .type "slice", data := .fields #[low, top, step] }) (t' := s4.toks) fun b ob g => Heap.get?_push_of_some _ g
  obtain ⟨us, rv, isT, small⟩ := I5.tuple sq
  have len : us.length = xs.length := rv.length.symm
  refine tail_any (ops := [.ref a, .ref s4.heap.objs.size]) isT.typeIs PyProof.Rows.slot_tuple_getitem.lookup ?_ (by with_unfolding_all rfl)
  refine back_tup isT (Heap.IsSliceOf.new _ low top step) plow ptop pstep ?_ (by omega)
  exact ⟨.ref _, _, I5.laid (t' := s4.toks) (o := .tup xs.reverse) (fun b ob g => Heap.get?_push_of_some _ g) (Nat.le_refl _) ⟨by rw [List.length_reverse]; exact small, _, rv.reverse, IsTup.new _ _⟩, rfl, q _ (I5.hok.fresh (Nat.le_refl _))⟩
end
end C2

namespace C2
set_option Elab.async false
set_option linter.all false
set_option maxRecDepth 100000
set_option maxHeartbeats 1000000
open PySem PySem.Spec PyProof.Rows L2 HT
/-! ### (v,) * k -/
theorem mul_one_tup (l : Addr) (x : Value) (n : Nat) (dd : Option Addr) (sl : Array (Option Value)) (u : Tok) :
    Meets (Builtin.«tuple.__mul__» ⟨[.ref l, .int 1 u], []⟩) (fun _ R s => s.heap.get? l = some { cls := .type "tuple", dict := dd, data := .seq #[x] n, slots := sl } ∧ R (.ok (.ret (Value.ref l))) s) :=
  .of_wp fun prog w A R ⟨hp, g, d, tk, os⟩ ⟨here, fin⟩ => by
    have ix := AutoSeq1.idx_int
    wp_walk using wpAny_loadPart' here
    exact ⟨_, rfl, fin⟩
theorem mul_none_tup (l : Addr) (x : Value) (n : Nat) (dd : Option Addr) (sl : Array (Option Value)) (u : Tok) :
    Meets (Builtin.«tuple.__mul__» ⟨[.ref l, .int 0 u], []⟩) (fun _ R s => s.heap.get? l = some { cls := .type "tuple", dict := dd, data := .seq #[x] n, slots := sl } ∧ R (.ok (.ret (Value.ref s.heap.objs.size))) { s with heap := s.heap.push { cls := Value.type "tuple", data := Data.seq #[] }, toks := s.toks }) :=
  .of_wp fun prog w A R ⟨hp, g, d, tk, os⟩ ⟨here, fin⟩ => by
    have ix := AutoSeq1.idx_int
    wp_walk using wpAny_loadPart' here
    exact ⟨_, rfl, fin⟩
section
variable {X : Cx}
/-- (v,) * k, k from nought on -/
def rRep1 (K : PySem.W.Frag) : R2 := fun x y H Q => ∃ (l : Addr) (k : Nat) (v : V), x = .ref l ∧ y = .int (k : Int) ∧ SqT K H l [v] ∧ k ≤ 1000 ∧ (k = 1 → Q (.ref l) H) ∧ (k ≠ 1 → ∀ p, H p = none → Q (.ref p) (upd H p (.tup (List.replicate k v))))
theorem rep_flat (v : V) : ∀ k : Nat, (List.replicate k [v]).flatten = List.replicate k v
  | 0 => rfl
  | k + 1 => by rw [List.replicate_succ, List.flatten_cons, rep_flat v k]; rfl
theorem op_rep1 : OpR X (binaryOp .Mult) (rRep1 X.K) := by
  intro pins s σ H x y v u Q I rx ry h
  obtain ⟨l, k, e, rfl, rfl, sq, big, q1, q2⟩ := h
  by_cases two : 2 ≤ k
  · refine op_repT pins s σ H _ _ v u Q I rx ry ⟨l, (k : Int), [e], rfl, rfl, sq, by simp, by omega, by omega, by show 1 ≤ 1000; decide, fun p np => ?_⟩
    rw [Int.toNat_natCast, rep_flat]
    exact q2 (by omega) p np
  · cases rx
    obtain ⟨t, rfl⟩ := ry
    obtain ⟨us, rv, ⟨⟨c, dd, data, sl⟩, at_, kind, n, dat⟩, small⟩ := I.tuple sq
    obtain ⟨y, rfl, ry⟩ : ∃ y, us = [y] ∧ RelV e y := by
      cases rv with
      | cons a b => cases b; exact ⟨_, rfl, a⟩
    simp only at kind dat
    subst kind dat
    have road : ∀ (m : Int) {Q' : Value → Shared → Prop}, wpAny (model X.prog X.w) X.A (call (.builtin "tuple.__mul__") [.ref l, .int m t]) Q' X.xe s → wpAny (model X.prog X.w) X.A (binaryOp .Mult (.ref l) (.int m t)) Q' X.xe s := fun m Q' go =>
      wpAny_binaryOp_repeat_ref (T := "tuple") (U := "int") (by decide) ⟨_, at_, rfl⟩ (fun s' => typeIs_int s' m t) noFill_tuple_mul F.fills_int_mul F.slot_int_rmul repeat_tuple F.slot_int_index.lookup
        (call_meets F.slot_int_rmul (typeIs_int s m t) F.entry_int_rmul (F.args_int_rmul_2 _ _) (int_rmul_tuple m t l _ n dd sl) ⟨at_, rfl, ⟨_, at_, rfl⟩, go⟩)
    rcases (show k = 0 ∨ k = 1 by omega) with rfl | rfl
    · refine road 0 (call_meets F.slot_tuple_mul ⟨_, at_, rfl⟩ F.entry_tuple_mul (F.args_tuple_mul_2 _ _) (mul_none_tup l y n dd sl t) ⟨at_, ?_⟩)
      exact ⟨.ref s.heap.objs.size, _, I.laid (t' := s.toks) (o := .tup []) (fun b ob g => Heap.get?_push_of_some _ g) (Nat.le_refl _) ⟨by decide, [], .nil, IsTup.new _ _⟩, rfl, q2 (by decide) _ (I.hok.fresh (Nat.le_refl _))⟩
    · exact road 1 (call_meets F.slot_tuple_mul ⟨_, at_, rfl⟩ F.entry_tuple_mul (F.args_tuple_mul_2 _ _) (mul_one_tup l y n dd sl t) ⟨at_, .ref l, H, I, rfl, q1 rfl⟩)
end
end C2

namespace C2
set_option Elab.async false
set_option linter.all false
set_option maxRecDepth 100000
set_option maxHeartbeats 1000000
open PySem PySem.Spec PyProof.Rows L2 HT
/-! ### small data -/
structure Oq (d : PyData) (dp wt : Nat) : Prop where
  sh : PyData.showable d = true
  hd : PyData.hasDict d = false
  ls : PyData.leavesShort 40 d = true
  dp : PyData.depth d ≤ dp
  wt : PyData.weight d ≤ wt
theorem Oq.mono {d : PyData} {dp wt dp' wt' : Nat} (h : Oq d dp wt) (a : dp ≤ dp') (b : wt ≤ wt') : Oq d dp' wt' := ⟨h.sh, h.hd, h.ls, Nat.le_trans h.dp a, Nat.le_trans h.wt b⟩
theorem Oq.all {dp wt : Nat} : ∀ {ds : List PyData}, (∀ d ∈ ds, Oq d dp wt) → PyData.showableAll ds = true ∧ PyData.hasDictAll ds = false ∧ PyData.leavesShortAll 40 ds = true ∧ PyData.depthAll ds ≤ dp ∧ PyData.weightAll ds ≤ (wt + 1) * ds.length
  | [], _ => ⟨by simp [PyData.showableAll], by simp [PyData.hasDictAll], by simp [PyData.leavesShortAll], by simp [PyData.depthAll], by simp [PyData.weightAll]⟩
  | d :: ds, h => by
    obtain ⟨i1, i2, i3, i4, i5⟩ := Oq.all (ds := ds) fun x hx => h x (List.mem_cons_of_mem _ hx)
    obtain ⟨j1, j2, j3, j4, j5⟩ := h d List.mem_cons_self
    refine ⟨?_, ?_, ?_, ?_, ?_⟩ <;> simp only [PyData.showableAll, PyData.hasDictAll, PyData.leavesShortAll, PyData.depthAll, PyData.weightAll, i1, i2, i3, j1, j2, j3]
    · rfl
    · rfl
    · rfl
    · omega
    · rw [List.length_cons, Nat.mul_succ]; omega
theorem Oq.tup {ds : List PyData} {dp wt n : Nat} (h : ∀ d ∈ ds, Oq d dp wt) (l : ds.length ≤ n) : Oq (.tuple ds) (dp + 1) ((wt + 1) * n) := by
  obtain ⟨i1, i2, i3, i4, i5⟩ := Oq.all h
  have m : (wt + 1) * ds.length ≤ (wt + 1) * n := Nat.mul_le_mul_left _ l
  refine ⟨?_, ?_, ?_, ?_, ?_⟩ <;> simp only [PyData.showable, PyData.hasDict, PyData.leavesShort, PyData.depth, PyData.weight, i1, i2, i3]
  · omega
  · omega
theorem Oq.lst {ds : List PyData} {dp wt n : Nat} (h : ∀ d ∈ ds, Oq d dp wt) (l : ds.length ≤ n) : Oq (.list ds) (dp + 1) ((wt + 1) * n) := by
  obtain ⟨i1, i2, i3, i4, i5⟩ := Oq.all h
  have m : (wt + 1) * ds.length ≤ (wt + 1) * n := Nat.mul_le_mul_left _ l
  refine ⟨?_, ?_, ?_, ?_, ?_⟩ <;> simp only [PyData.showable, PyData.hasDict, PyData.leavesShort, PyData.depth, PyData.weight, i1, i2, i3]
  · omega
  · omega
def okL (d : PyData) : Bool := PyData.showable d && !PyData.hasDict d && PyData.leavesShort 40 d && decide (PyData.depth d ≤ 0) && decide (PyData.weight d ≤ 100)
theorem okL.oq {d : PyData} (h : okL d = true) : Oq d 0 100 := by
  unfold okL at h
  simp only [Bool.and_eq_true, decide_eq_true_eq, Bool.not_eq_true'] at h
  exact ⟨h.1.1.1.1, h.1.1.1.2, h.1.1.2, h.1.2, h.2⟩
theorem okL_upto : ((List.range 64).all fun n => okL (.int (n : Int))) = true := by decide +kernel
theorem okL_nat {n : Nat} (h : n < 64) : okL (.int (n : Int)) = true := List.all_eq_true.mp okL_upto n (List.mem_range.mpr h)
theorem oq_int {v : Int} (h0 : 0 ≤ v) (h1 : v < 64) : Oq (.int v) 0 100 := by
  have e := okL_nat (n := v.toNat) (by omega)
  rw [Int.toNat_of_nonneg h0] at e
  exact okL.oq e
theorem oq_less : Oq (.int (-1)) 0 100 := okL.oq (by decide +kernel)
theorem oq_great : Oq (.int ((10 : Int) ^ (29 : Int).toNat)) 0 100 := okL.oq (by decide +kernel)
theorem oq_bl (b : Bool) : Oq (.bool b) 0 100 := okL.oq (by cases b <;> decide +kernel)
theorem oq_non : Oq .none 0 100 := okL.oq (by decide +kernel)
theorem oq_str0 : Oq (.str "0") 0 100 := okL.oq (by decide +kernel)
theorem oq_void : Oq (.str "") 0 100 := okL.oq (by decide +kernel)
theorem oq_ints {m : Nat} (hm : m ≤ 41) {vs : List Int} (h : Upto m vs) : ∀ d ∈ vs.map PyData.int, Oq d 0 100 := fun d hd => by
  obtain ⟨v, hv, rfl⟩ := List.mem_map.mp hd
  have := h v hv
  exact oq_int this.1 (by omega)
/-! ### things -/
def TG (E : Addr → Prop) (H : Hp) (v : V) (d : PyData) : Prop := Dq E H v d ∨ (d = .dict [] ∧ ∃ a, v = .ref a ∧ H a = some (.dK []) ∧ ¬ E a)
def TF (E : Addr → Prop) (H : Hp) (v : V) (d : PyData) : Prop := (Dq E H v d ∧ Oq d 4 30000) ∨ (d = .dict [] ∧ ∃ a, v = .ref a ∧ H a = some (.dK []) ∧ ¬ E a)
theorem TF.tg {E : Addr → Prop} {H : Hp} {v : V} {d : PyData} (h : TF E H v d) : TG E H v d := h.elim (fun x => .inl x.1) .inr
theorem TF.fr {E : Addr → Prop} {H H' : Hp} {v : V} {d : PyData} (h : TF E H v d) (f : FrX E H H') : TF E H' v d := by
  rcases h with ⟨h, o⟩ | ⟨e, a, ea, h, n⟩
  · exact .inl ⟨h.fr f, o⟩
  · exact .inr ⟨e, a, ea, f _ _ n h, n⟩
theorem TG.thg {E : Addr → Prop} {H : Hp} {v : V} {d : PyData} (h : TG E H v d) : ∃ o, Thg H v o ∧ (∀ xs, o = some xs → ∃ ds, d = .tuple ds ∧ DqAll E H xs ds) ∧ (o = none → ∀ ds, d ≠ .tuple ds) := by
  rcases h with h | ⟨rfl, a, rfl, e, n⟩
  · cases h with
    | non => exact ⟨none, .non, (fun _ e => nomatch e), (fun _ _ e => nomatch e)⟩
    | bl b => exact ⟨none, .bl b, (fun _ e => nomatch e), (fun _ _ e => nomatch e)⟩
    | int i => exact ⟨none, .int i, (fun _ e => nomatch e), (fun _ _ e => nomatch e)⟩
    | str x => exact ⟨none, .str x, (fun _ e => nomatch e), (fun _ _ e => nomatch e)⟩
    | lst e n t => exact ⟨none, .lst e, (fun _ e => nomatch e), (fun _ _ e => nomatch e)⟩
    | tup e n t => exact ⟨_, .tup e, (fun xs e => by cases e; exact ⟨_, rfl, t⟩), (fun e => nomatch e)⟩
  · exact ⟨none, .dK e, (fun _ e => nomatch e), (fun _ _ e => nomatch e)⟩
theorem TF.repr {E : Addr → Prop} {G : Hp} {v : V} {d : PyData} {Q : VK} (h : TF E G v d) (q : Q (.str d.shown) G) : rReprQ [v] G Q := by
  rcases h with ⟨h, o⟩ | ⟨rfl, a, rfl, e, n⟩
  · have z := PyData.shown_le 40 (by decide) d o.ls
    have s : 4000000 ≤ sizeLine := by decide
    have w := o.wt
    exact .inl ⟨E, v, d, rfl, h, o.sh, o.hd, Nat.le_trans o.dp (by decide), by omega, q⟩
  · exact .inr ⟨a, rfl, e, q⟩
/-! ### tuples: +, slices, backwards, list(..) -/
/-- a tuple of data -/
def TupD (E : Addr → Prop) (H : Hp) (a : Addr) (ds : List PyData) : Prop := ∃ xs, H a = some (.tup xs) ∧ ¬ E a ∧ DqAll E H xs ds
theorem TupD.fr {E : Addr → Prop} {H H' : Hp} {a : Addr} {ds : List PyData} (h : TupD E H a ds) (f : FrX E H H') : TupD E H' a ds := by
  obtain ⟨xs, e, n, t⟩ := h
  exact ⟨xs, f _ _ n e, n, t.fr f⟩
theorem TupD.dq {E : Addr → Prop} {H : Hp} {a : Addr} {ds : List PyData} (h : TupD E H a ds) : Dq E H (.ref a) (.tuple ds) := by
  obtain ⟨xs, e, n, t⟩ := h
  exact .tup e n t
section
variable {K : PySem.W.Frag} {E : Addr → Prop} {G : Hp} {Q : VK} {n : Nat}
theorem cat_ok {a b : Addr} {ds es : List PyData} (out : ∀ c, G c = none → ¬ E c) (ha : TupD E G a ds) (hb : TupD E G b es) (few : ds.length + es.length ≤ 1000) (q : ∀ c G', Same G G' → TupD E G' c (ds ++ es) → Q (.ref c) G') : rCatA K (.ref a) (.ref b) G Q := by
  obtain ⟨xs, ea, na, ta⟩ := id ha
  obtain ⟨ys, eb, nb, tb⟩ := id hb
  have lx := ta.len
  have ly := tb.len
  refine ⟨a, b, xs, ys, rfl, rfl, .inl (.inl ea), .inl (.inl eb), Nat.le_trans (show xs.length + ys.length ≤ 1000 by omega) (by decide), fun z => ?_, fun _ z => ?_, fun _ _ c nc => ?_⟩
  · subst z
    cases ta
    exact q b G (Same.refl _) hb
  · subst z
    cases tb
    rw [List.append_nil] at q
    exact q a G (Same.refl _) ha
  · have s := same_upd (o := .tup (xs ++ ys)) nc
    exact q c _ s ⟨_, upd_same, out c nc, (ta.app tb).fr (FrX.same s)⟩
theorem cut_sub {α : Type} (xs : List α) (i j : Nat) : ((xs.drop i).take j).Sublist xs := (List.take_sublist _ _).trans (List.drop_sublist _ _)
theorem sl_ok {a : Addr} {ds : List PyData} {lo hi : Option Int} (out : ∀ c, G c = none → ¬ E c) (ha : TupD E G a ds) (q : ∀ c G' es, Same G G' → TupD E G' c es → es.Sublist ds → Q (.ref c) G') : rSlA K (.ref a) lo hi G Q := by
  obtain ⟨xs, ea, na, ta⟩ := id ha
  refine ⟨a, xs, rfl, .inl (.inl ea), fun _ => q a G ds (Same.refl _) ha (List.Sublist.refl _), fun _ c nc => ?_⟩
  have s := same_upd (o := .tup (cutV xs lo hi)) nc
  refine q c _ _ s ⟨_, upd_same, out c nc, ?_⟩ (cut_sub ds (sIx xs.length 0 lo) (sIx xs.length xs.length hi - sIx xs.length 0 lo))
  exact ((ta.drop _).take _).fr (FrX.same s)
theorem back_ok {te : TE} {σ : L2.St} {a : Addr} {ds : List PyData} (out : ∀ c, G c = none → ¬ E c) (ha : TupD E G a ds) (hte : ∀ R : VK, R (.ref a) G → te σ G R) (q : ∀ c G', Same G G' → TupD E G' c ds.reverse → Q (.ref c) G') : tBackT K te σ G Q := by
  obtain ⟨xs, ea, na, ta⟩ := id ha
  refine hte _ ⟨a, xs, rfl, .inl (.inl ea), fun c nc => ?_⟩
  have s := same_upd (o := .tup xs.reverse) nc
  exact q c _ s ⟨_, upd_same, out c nc, ta.rev.fr (FrX.same s)⟩
end
end C2

namespace C2
set_option Elab.async false
set_option linter.all false
set_option maxRecDepth 100000
set_option maxHeartbeats 1000000
open PySem PySem.Spec PyProof.Rows L2
def btD (hi : Int) : PyData → Bool
  | .int i => decide (0 ≤ i ∧ i ≤ hi)
  | _ => false
def numD (many most : Int) : PyData → Bool
  | .tuple ds => decide ((ds.length : Int) = many) && ds.all (btD most)
  | _ => false
def pickD (a b : Int) : PyData → Bool
  | .tuple [x, y] => numD b a x && numD a b y
  | _ => false
theorem bt_eq {E : Addr → Prop} {H : Hp} {v : V} {d : PyData} {hi : Int} (h : Dq E H v d) : betw v 0 hi = btD hi d := by
  cases h <;> rfl
theorem all_bt {E : Addr → Prop} {H : Hp} {hi : Int} : ∀ {ds : List PyData} {vs : List V}, DqAll E H vs ds → vs.all (fun v => betw v 0 hi) = ds.all (btD hi)
  | [], _, h => by cases h; rfl
  | d :: ds, _, h => by
    cases h with
    | cons x t => rw [List.all_cons, List.all_cons, bt_eq x, all_bt t]
theorem numD_no {many most : Int} {d : PyData} (h : ∀ ds, d ≠ .tuple ds) : numD many most d = false := by
  cases d with
  | tuple ds => exact absurd rfl (h ds)
  | _ => rfl
theorem pickD_no {a b : Int} {d : PyData} (h : ∀ x y, d ≠ .tuple [x, y]) : pickD a b d = false := by
  cases d with
  | tuple ds =>
    match ds with
    | [] => rfl
    | [x] => rfl
    | [x, y] => exact absurd rfl (h x y)
    | x :: y :: z :: r => rfl
  | _ => rfl
section
variable {P : Program} {w : World} {K : PySem.W.Frag} {mg : Str → Option Value} {base : Heap}
/-- all(..) over a tuple -/
theorem all_tup {te : TE} {σ : L2.St} {G : Hp} {Q : VK} {i s : Nat} {a : Addr} {xs : List V} {R : V → Bool} (ha : σ[i]? = some (some (.ref a))) (hx : G a = some (.tup xs)) (hw : ∀ v, wipe ((wipe σ [s]).set s (some v)) [s] = wipe σ [s])
    (hte : ∀ (v : V) (G1 : Hp) (Q' : VK), v ∈ xs → Same G G1 → (∀ (B : Bool) G', B = R v → Same G1 G' → Q' (.bl B) G') → te ((wipe σ [s]).set s (some v)) G1 Q') (few : xs.length < sizeLine)
    (q : ∀ (B : Bool) G', B = xs.all R → Same G G' → Q (.bl B) G') : tCB (rAll K) (tCons (tLc (iTup K (tVar i)) (gName s) tYes te [s]) tNil) σ G Q := by
  refine ⟨_, ha, a, rfl, ⟨_, .inl (.inl hx)⟩, fun D nD => ?_⟩
  refine lc_tup (xs := xs) (fun m G' => Same G G' ∧ G' D = some (.lst (((xs.take m).map R).map V.bl))) ⟨same_upd nD, upd_same⟩ (fun m G' _ h => .inl (.inl (h.1 _ _ hx))) ?_ ?_
  · rintro m v G' hv ⟨sm, hD⟩
    refine ⟨hw _, ?_⟩
    simp only [tYes, ↓reduceIte]
    have hm : m < xs.length := (List.getElem?_eq_some_iff.mp hv).1
    refine hte v G' _ (List.mem_of_getElem? hv) sm fun B G2 e s2 => ⟨_, s2 _ _ hD, ?_, ?_, ?_⟩
    · rw [List.length_map, List.length_map, List.length_take]
      omega
    · intro b' o e'
      rw [upd_ne (ne_of_none e' nD)]
      exact s2 _ _ (sm _ _ e')
    · rw [upd_same, List.take_add_one, hv, List.map_append, List.map_append, e]
      rfl
  · rintro G' ⟨sm, hD⟩
    rw [List.take_length] at hD
    refine ⟨D, xs.map R, rfl, .inl (.inl hD), ?_⟩
    refine q _ _ ?_ sm
    rw [List.all_map]
    rfl
abbrev NNu : List Str := ["thing", "many", "most", "part"]
theorem scNumbers : FnScope NNu ["thing", "many", "most"] (defScope sNumbers) := ⟨rfl, rfl, rfl, by decide +kernel, rfl, by decide +kernel, by decide +kernel⟩
def teNu : TE := tCall spBetween [] E0 (tCons (tVar 3) (tCons (tC (V.int 0)) (tCons (tVar 2) tNil)))
def spNumbers : Sp := fun vs H Q _ => ∃ (N : Addr → Prop) (v : V) (d : PyData) (many most : Int), vs = [v, .int many, .int most] ∧ TG N H v d ∧ many < 1000 ∧ ∀ (B : Bool) H', B = numD many most d → Same H H' → Q (.bl B) H'
theorem ok_numbers {f fW fB fU : Addr} {fd fdW fdB fdU : FuncData} {k : Nat} (F : Fun K "is_numbers" "is_numbers" sNumbers f fd) (FW : Fun K "is_whole" "is_whole" sPWhole fW fdW) (FB : Fun K "is_between" "is_between" sBetween fB fdB) (FU : Fun K "is_tuple_of" "is_tuple_of" sTupOf fU fdU)
    (bW : Binds K fdW ["thing"] []) (bB : Binds K fdB ["thing", "least", "most"] []) (bU : Binds K fdU ["thing", "many"] []) (gW : mg "is_whole" = some (.ref fW)) (gB : mg "is_between" = some (.ref fB)) (gU : mg "is_tuple_of" = some (.ref fU))
    (mi : mg "isinstance" = none) (mint : mg "int" = none) (mbool : mg "bool" = none) (mtup : mg "tuple" = none) (ml : mg "len" = none) (mall : mg "all" = none) : FnOk P w K mg base CX0 (k + 3) f fd ["thing", "many", "most"] spNumbers := by
  have GB : FnOk P w K mg base CX0 (k + 2) fB fdB ["thing", "least", "most"] spBetween := ok_between FB FW bW gW mi mint mbool
  have GU : FnOk P w K mg base CX0 1 fU fdU ["thing", "many"] spTupOf := ok_tupOf FU mi mtup ml
  refine F.ok scNumbers (fun vs H Q E h => ?_) (fun cdv A outer s H vs Q E hr h => ?_)
  · obtain ⟨p, v, d, many, most, rfl, _⟩ := h
    rfl
  · obtain ⟨p, v, d, many, most, rfl, t, few, q⟩ := h
    have nd := scNumbers.nd
    refine ⟨_, pss_one (ps_ret (pe_and (pe_call GU (hr.mono (by omega)) (by rfl) gU FU.kp bU .nil pass0 (pa_cons (pv 0) (pa_cons (pv 1) pa_nil))) (pe_one (pe_callB (cr_all rfl) (by rfl) mall (by decide +kernel) (pa_cons (pe_lc (own := [("part", 3)]) (g := gName 3) (tt := tYes) (te := teNu) rfl nd (pi_tup (pv 0)) (blkOk_by (own := [("part", 3)]) (N := NNu) (sc := defScope sNumbers) (by decide +kernel)) (fun _ _ _ _ _ => pg_name (i := 3) nd rfl (.inl rfl)) (fun _ _ _ _ _ => pts_nil) (fun _ _ _ _ _ => (pe_call GB hr (by rfl) gB FB.kp bB .nil pass0 (pa_cons (pv 3) (pa_cons pe_int (pa_cons (pv 2) pa_nil)))))) pa_nil))))), ?_⟩
    obtain ⟨o, th, yes, no⟩ := t.thg
    refine ⟨v, rfl, .int many, rfl, v, o, many, rfl, th, _, rfl, ite2 (fun e => ?_) (fun e => ?_)⟩
    · cases o with
      | none => cases e
      | some xs =>
        obtain ⟨ds, rfl, da⟩ := yes xs rfl
        obtain ⟨a, rfl, ea⟩ := th.some_tup
        have el : ((xs.length : Nat) : Int) = many := of_decide_eq_true e
        show tCB (rAll K) (tCons (tLc (iTup K (tVar 0)) (gName 3) tYes teNu [3]) tNil) [some (.ref a), some (.int many), some (.int most), none] _ _
        refine all_tup (R := fun v => betw v 0 most) rfl ea (fun v => rfl) (fun y G1 Q' hy s1 kk => ?_) (Nat.lt_of_lt_of_le (show xs.length < 1000 by omega) (by decide)) fun B G' eB sm => q B G' ?_ sm
        · obtain ⟨dy, _, hy'⟩ := da.nth hy
          obtain ⟨oy, ty, _⟩ := hy'.thg
          exact ⟨y, rfl, .int most, rfl, y, oy, 0, most, rfl, ty.same s1, kk _ _ rfl (Same.refl _)⟩
        · rw [eB, all_bt da]
          show _ = (decide _ && _)
          rw [← da.len, decide_eq_true el, Bool.true_and]
    · refine q _ _ ?_ (Same.refl _)
      cases o with
      | none => exact (numD_no (no rfl)).symm
      | some xs =>
        obtain ⟨ds, rfl, da⟩ := yes xs rfl
        have el : ¬ ((xs.length : Nat) : Int) = many := fun z => e (decide_eq_true z)
        show _ = (decide _ && _)
        rw [← da.len, decide_eq_false el, Bool.false_and]
abbrev NIp : List Str := ["a", "b", "thing", "xs", "ys"]
theorem scIsPick : FnScope NIp ["a", "b", "thing"] (defScope sIsPick) := ⟨rfl, rfl, rfl, by decide +kernel, rfl, by decide +kernel, by decide +kernel⟩
def spIsPick : Sp := fun vs H Q _ => ∃ (N : Addr → Prop) (v : V) (d : PyData) (a b : Int), vs = [.int a, .int b, v] ∧ TG N H v d ∧ a < 1000 ∧ b < 1000 ∧ ∀ (B : Bool) H', B = pickD a b d → Same H H' → Q (.bl B) H'
theorem ok_ispick {f fN fW fB fU : Addr} {fd fdN fdW fdB fdU : FuncData} {k : Nat} (F : Fun K "is_pick" "is_pick" sIsPick f fd) (FN : Fun K "is_numbers" "is_numbers" sNumbers fN fdN) (FW : Fun K "is_whole" "is_whole" sPWhole fW fdW) (FB : Fun K "is_between" "is_between" sBetween fB fdB) (FU : Fun K "is_tuple_of" "is_tuple_of" sTupOf fU fdU)
    (bN : Binds K fdN ["thing", "many", "most"] []) (bW : Binds K fdW ["thing"] []) (bB : Binds K fdB ["thing", "least", "most"] []) (bU : Binds K fdU ["thing", "many"] []) (gN : mg "is_numbers" = some (.ref fN)) (gW : mg "is_whole" = some (.ref fW)) (gB : mg "is_between" = some (.ref fB)) (gU : mg "is_tuple_of" = some (.ref fU))
    (mi : mg "isinstance" = none) (mint : mg "int" = none) (mbool : mg "bool" = none) (mtup : mg "tuple" = none) (ml : mg "len" = none) (mall : mg "all" = none) : FnOk P w K mg base CX0 (k + 4) f fd ["a", "b", "thing"] spIsPick := by
  have GN : FnOk P w K mg base CX0 (k + 3) fN fdN ["thing", "many", "most"] spNumbers := ok_numbers FN FW FB FU bW bB bU gW gB gU mi mint mbool mtup ml mall
  have GU : FnOk P w K mg base CX0 1 fU fdU ["thing", "many"] spTupOf := ok_tupOf FU mi mtup ml
  refine F.ok scIsPick (fun vs H Q E h => ?_) (fun cdv A outer s H vs Q E hr h => ?_)
  · obtain ⟨p, v, d, a, b, rfl, _⟩ := h
    rfl
  · obtain ⟨p, v, d, a, b, rfl, t, fa, fb, q⟩ := h
    have nd := scIsPick.nd
    refine ⟨_, pss_cons (ps_if (pt_not (pt_val (pe_call GU (hr.mono (by omega)) (by rfl) gU FU.kp bU .nil pass0 (pa_cons (pv 2) (pa_cons pe_int pa_nil))))) (pss_one (ps_ret pe_bl)) pss_nil)
      (pss_cons (ps_asg (pv 2) (pg_tup rfl (pgs_cons (pg_name (i := 3) nd rfl (.inl rfl)) (pgs_cons (pg_name (i := 4) nd rfl (.inl rfl)) pgs_nil))))
      (pss_one (ps_ret (pe_and (pe_call GN hr (by rfl) gN FN.kp bN .nil pass0 (pa_cons (pv 3) (pa_cons (pv 1) (pa_cons (pv 0) pa_nil)))) (pe_one (pe_call GN hr (by rfl) gN FN.kp bN .nil pass0 (pa_cons (pv 4) (pa_cons (pv 0) (pa_cons (pv 1) pa_nil))))))))), ?_⟩
    obtain ⟨o, th, yes, no⟩ := t.thg
    refine ⟨v, rfl, v, o, 2, rfl, th, lenIs o 2, rfl, ite2 (fun e => ?_) (fun e => ?_)⟩
    · refine q _ _ ?_ (Same.refl _)
      refine (pickD_no fun x y z => ?_).symm
      cases o with
      | none => exact no rfl _ z
      | some xs =>
        obtain ⟨ds, rfl, da⟩ := yes xs rfl
        cases z
        have l := da.len
        have : lenIs (some xs) 2 = true := by
          show decide _ = true
          exact decide_eq_true (by rw [l]; rfl)
        rw [this] at e
        cases e
    · have e' : lenIs o 2 = true := by simpa using e
      cases o with
      | none => cases e'
      | some xs =>
        obtain ⟨ds, rfl, da⟩ := yes xs rfl
        obtain ⟨c, rfl, ec⟩ := th.some_tup
        have el : ((xs.length : Nat) : Int) = 2 := of_decide_eq_true e'
        have l := da.len
        match xs, ds, da, el, l with
        | [u, v], [x, y], .cons hx (.cons hy .nil), _, _ =>
          refine ⟨.ref c, rfl, c, _, rfl, .inl (.inl ec), rfl, _, _, rfl, _, _, rfl, rfl, ?_⟩
          refine ⟨u, rfl, .int b, rfl, .int a, rfl, p, u, x, b, a, rfl, .inl hx, fb, fun B1 H1 e1 s1 => ?_⟩
          refine ⟨B1, rfl, ite2 (fun z => ?_) (fun z => ?_)⟩
          · refine ⟨v, rfl, .int a, rfl, .int b, rfl, p, v, y, a, b, rfl, .inl (hy.fr (FrX.same s1)), fa, fun B2 H2 e2 s2 => q B2 H2 ?_ (s1.trans s2)⟩
            show _ = (_ && _)
            rw [← e1, z, Bool.true_and, e2]
          · refine q false H1 ?_ s1
            show _ = (_ && _)
            rw [← e1, Bool.eq_false_iff.mpr z, Bool.false_and]
abbrev NAr : List Str := ["_law_what", "_law_many", "_law_most", "_law_one"]
theorem scAre : FnScope NAr ["_law_what", "_law_many", "_law_most"] (defScope sAre) := ⟨rfl, rfl, rfl, by decide +kernel, rfl, by decide +kernel, by decide +kernel⟩
def rIsiK (K : PySem.W.Frag) : List V → Hp → VK → Prop := rIsi K
def teAr (K : PySem.W.Frag) : TE := tAndV (tCB (rIsi K) (tCons (tVar 3) (tCons (tC (.ty "int")) tNil))) (tAndV (tNotV (tCB (rIsi K) (tCons (tVar 3) (tCons (tC (.ty "bool")) tNil)))) (tChain (rI0 fun i j => V.bl (decide (i ≤ j))) (rI0 fun i j => V.bl (decide (i ≤ j))) (tC (V.int 0)) (tVar 3) (tVar 2)))
theorem ok_are {f : Addr} {fd : FuncData} {k : Nat} (F : Fun K "_law_are" "_law_are" sAre f fd)
    (mi : mg "isinstance" = none) (mint : mg "int" = none) (mbool : mg "bool" = none) (mtup : mg "tuple" = none) (ml : mg "len" = none) (mall : mg "all" = none) : FnOk P w K mg base CX0 (k + 1) f fd ["_law_what", "_law_many", "_law_most"] spNumbers := by
  refine F.ok scAre (fun vs H Q E h => ?_) (fun cdv A outer s H vs Q E hr h => ?_)
  · obtain ⟨p, v, d, many, most, rfl, _⟩ := h
    rfl
  · obtain ⟨p, v, d, many, most, rfl, t, few, q⟩ := h
    have nd := scAre.nd
    refine ⟨_, pss_cons (ps_if (PW.pt (pw_or (pt_not (pt_val (pe_callB call_isi (by rfl) mi (by decide +kernel) (pa_cons (pv 0) (pa_cons (pe_bltn (v := .ty "tuple") (by rfl) mtup (by decide +kernel) rfl) pa_nil))))) (pw_or1 (pt_cmpR op_ne (pe_callB call_len_seq (by rfl) ml PySem.boot_len (pa_cons (pv 0) pa_nil)) (pv 1) (nomark _))))) (pss_one (ps_ret pe_bl)) pss_nil)
      (pss_one (ps_ret (pe_callB (cr_all rfl) (by rfl) mall (by decide +kernel) (pa_cons (pe_lc (own := [("_law_one", 3)]) (g := gName 3) (tt := tYes) (te := teAr K) rfl nd (pi_tup (pv 0)) (blkOk_by (own := [("_law_one", 3)]) (N := NAr) (sc := defScope sAre) (by decide +kernel)) (fun _ _ _ _ _ => pg_name (i := 3) nd rfl (.inl rfl)) (fun _ _ _ _ _ => pts_nil) (fun _ _ _ _ _ => (pe_and (pe_callB call_isi (by rfl) mi (by decide +kernel) (pa_cons (pv 3) (pa_cons (pe_bltn (v := .ty "int") (by rfl) mint (by decide +kernel) rfl) pa_nil))) (pe_and (pe_not (pe_callB call_isi (by rfl) mi (by decide +kernel) (pa_cons (pv 3) (pa_cons (pe_bltn (v := .ty "bool") (by rfl) mbool (by decide +kernel) rfl) pa_nil)))) (pe_one (pe_chain op_le op_le pe_int (pv 3) (pv 2))))))) pa_nil)))), ?_⟩
    obtain ⟨o, th, yes, no⟩ := t.thg
    obtain ⟨n, ty, _, _, k3, _⟩ := th.kit (K := K)
    refine ⟨v, rfl, v, .ty "tuple", _, _, _, rfl, .ty "tuple", ty, kit_ty k3, o.isSome, rfl, ite2 (fun e => ?_) (fun e => ?_)⟩
    · refine iteT (q _ _ ?_ (Same.refl _))
      cases o with
      | none => exact (numD_no (no rfl)).symm
      | some xs => cases e
    · cases o with
      | none => exact absurd rfl e
      | some xs =>
        obtain ⟨ds, rfl, da⟩ := yes xs rfl
        obtain ⟨a, rfl, ea⟩ := th.some_tup
        refine ⟨.ref a, rfl, a, xs, rfl, .inr (.inl (.inl ea)), .int many, rfl, rfl, _, rfl, ite2 (fun z => ?_) (fun z => ?_)⟩
        · refine q _ _ ?_ (Same.refl _)
          have ne : ¬ ((xs.length : Nat) : Int) = many := fun y => by
            rw [y] at z
            simp at z
          show _ = (decide _ && _)
          rw [← da.len, decide_eq_false ne, Bool.false_and]
        · have el : ((xs.length : Nat) : Int) = many := by
            by_cases y : ((xs.length : Nat) : Int) = many
            · exact y
            · exact absurd (by simp [y]) z
          show tRet (tCB (rAll K) (tCons (tLc (iTup K (tVar 0)) (gName 3) tYes (teAr K) [3]) tNil)) _ [some (.ref a), some (.int many), some (.int most), none] _
          refine all_tup (R := fun v => betw v 0 most) rfl ea (fun v => rfl) (fun y G1 Q' hy s1 kk => ?_) (Nat.lt_of_lt_of_le (show xs.length < 1000 by omega) (by decide)) fun B G' eB sm => q B G' ?_ sm
          · obtain ⟨dy, _, hy'⟩ := da.nth hy
            obtain ⟨oy, tyy, _⟩ := hy'.thg
            obtain ⟨m, ty2, k1, k2, _, _⟩ := (tyy.same s1).kit (K := K)
            refine ⟨y, rfl, y, .ty "int", _, _, _, rfl, .ty "int", ty2, kit_ty k1, _, rfl, ite2 (fun e1 => ?_) (fun e1 => ?_)⟩
            · refine ⟨y, rfl, y, .ty "bool", _, _, _, rfl, .ty "bool", ty2, kit_ty k2, _, rfl, _, rfl, ite2 (fun e2 => ?_) (fun e2 => ?_)⟩
              · have nb : isBo y = false := by simpa using e2
                obtain ⟨i, rfl⟩ := isIB_int e1 nb
                refine ⟨.int i, rfl, 0, i, rfl, rfl, _, rfl, ite2 (fun e3 => ?_) (fun e3 => ?_)⟩
                · refine ⟨.int most, rfl, i, most, rfl, rfl, kk _ _ ?_ (Same.refl _)⟩
                  have e4 := of_decide_eq_true e3
                  show _ = decide (_ ∧ _)
                  by_cases y : i ≤ most <;> simp [y, e4]
                · refine kk _ _ ?_ (Same.refl _)
                  have e4 : ¬ 0 ≤ i := fun y => e3 (decide_eq_true y)
                  show _ = decide (_ ∧ _)
                  rw [decide_eq_false (by omega)]
              · refine kk _ _ ?_ (Same.refl _)
                have hb : isBo y = true := by simpa using e2
                refine (betw_no ?_).symm
                rw [← isIB_not e1, hb]
                rfl
            · exact kk _ _ (betw_no (isIB_no e1)).symm (Same.refl _)
          · rw [eB, all_bt da]
            show _ = (decide _ && _)
            rw [← da.len, decide_eq_true el, Bool.true_and]
theorem scLIsPick : FnScope ["_law_wide", "_law_high", "_law_what"] ["_law_wide", "_law_high", "_law_what"] (defScope sLIsPick) := ⟨rfl, rfl, rfl, by decide +kernel, rfl, by decide +kernel, by decide +kernel⟩
theorem ok_lispick {f fA : Addr} {fd fdA : FuncData} {k : Nat} (F : Fun K "_law_is_pick" "_law_is_pick" sLIsPick f fd) (FA : Fun K "_law_are" "_law_are" sAre fA fdA) (bA : Binds K fdA ["_law_what", "_law_many", "_law_most"] []) (gA : mg "_law_are" = some (.ref fA))
    (mi : mg "isinstance" = none) (mint : mg "int" = none) (mbool : mg "bool" = none) (mtup : mg "tuple" = none) (ml : mg "len" = none) (mall : mg "all" = none) : FnOk P w K mg base CX0 (k + 2) f fd ["_law_wide", "_law_high", "_law_what"] spIsPick := by
  have GA : FnOk P w K mg base CX0 (k + 1) fA fdA ["_law_what", "_law_many", "_law_most"] spNumbers := ok_are FA mi mint mbool mtup ml mall
  refine F.ok scLIsPick (fun vs H Q E h => ?_) (fun cdv A outer s H vs Q E hr h => ?_)
  · obtain ⟨p, v, d, a, b, rfl, _⟩ := h
    rfl
  · obtain ⟨p, v, d, a, b, rfl, t, fa, fb, q⟩ := h
    have nd := scLIsPick.nd
    refine ⟨_, pss_cons (ps_if (PW.pt (pw_or (pt_not (pt_val (pe_callB call_isi (by rfl) mi (by decide +kernel) (pa_cons (pv 2) (pa_cons (pe_bltn (v := .ty "tuple") (by rfl) mtup (by decide +kernel) rfl) pa_nil))))) (pw_or1 (pt_cmpR op_ne (pe_callB call_len_seq (by rfl) ml PySem.boot_len (pa_cons (pv 2) pa_nil)) pe_int (nomark _))))) (pss_one (ps_ret pe_bl)) pss_nil)
      (pss_one (ps_ret (pe_and (pe_call GA hr (by rfl) gA FA.kp bA .nil pass0 (pa_cons (pe_ix ix_tup (pv 2) pe_int (fun _ _ => rfl)) (pa_cons (pv 1) (pa_cons (pv 0) pa_nil)))) (pe_one (pe_call GA hr (by rfl) gA FA.kp bA .nil pass0 (pa_cons (pe_ix ix_tup (pv 2) pe_int (fun _ _ => rfl)) (pa_cons (pv 0) (pa_cons (pv 1) pa_nil)))))))), ?_⟩
    obtain ⟨o, th, yes, no⟩ := t.thg
    obtain ⟨n, ty, _, _, k3, _⟩ := th.kit (K := K)
    refine ⟨v, rfl, v, .ty "tuple", _, _, _, rfl, .ty "tuple", ty, kit_ty k3, o.isSome, rfl, ite2 (fun e => ?_) (fun e => ?_)⟩
    · refine iteT (q _ _ ?_ (Same.refl _))
      cases o with
      | none => exact (pickD_no fun x y z => no rfl _ z).symm
      | some xs => cases e
    · cases o with
      | none => exact absurd rfl e
      | some xs =>
        obtain ⟨ds, rfl, da⟩ := yes xs rfl
        obtain ⟨c, rfl, ec⟩ := th.some_tup
        have l := da.len
        refine ⟨.ref c, rfl, c, xs, rfl, .inr (.inl (.inl ec)), rfl, _, rfl, ite2 (fun z => ?_) (fun z => ?_)⟩
        · refine q _ _ ?_ (Same.refl _)
          refine (pickD_no fun x y w => ?_).symm
          cases w
          have : xs.length = 2 := l
          rw [this] at z
          cases z
        · have el : xs.length = 2 := by
            by_cases y : xs.length = 2
            · exact y
            · refine absurd ?_ z
              have : ¬ ((xs.length : Nat) : Int) = 2 := by omega
              simp [this]
          match xs, ds, da, el, l with
          | [u, v], [x, y], .cons hx (.cons hy .nil), _, _ =>
            refine ⟨.ref c, rfl, c, _, 0, u, rfl, rfl, .inl (.inl ec), rfl, .int b, rfl, .int a, rfl, p, u, x, b, a, rfl, .inl hx, fb, fun B1 H1 e1 s1 => ?_⟩
            refine ⟨B1, rfl, ite2 (fun z => ?_) (fun z => ?_)⟩
            · refine ⟨.ref c, rfl, c, _, 1, v, rfl, rfl, .inl (.inl (s1 _ _ ec)), rfl, .int a, rfl, .int b, rfl, p, v, y, a, b, rfl, .inl (hy.fr (FrX.same s1)), fa, fun B2 H2 e2 s2 => q B2 H2 ?_ (s1.trans s2)⟩
              show _ = (_ && _)
              rw [← e1, z, Bool.true_and, e2]
            · refine q false H1 ?_ s1
              show _ = (_ && _)
              rw [← e1, Bool.eq_false_iff.mpr z, Bool.false_and]
end
end C2

namespace C2
set_option Elab.async false
set_option linter.all false
set_option maxRecDepth 100000
set_option maxHeartbeats 1000000
open PySem PySem.Spec PyProof.Rows L2 HT
theorem both_of {c : Bool} {ta tb : TE} {σ : L2.St} {H : Hp} {K1 : VK} (C : V → Hp → Prop) (hk : ∀ x H', C x H' → K1 x H') (ha : (∀ x H', C x H' → K1 x H') → c = true → ta σ H K1) (hb : (∀ x H', C x H' → K1 x H') → ¬ c = true → tb σ H K1) : if c = true then ta σ H K1 else tb σ H K1 := by
  by_cases e : c = true
  · rw [if_pos e]; exact ha hk e
  · rw [if_neg e]; exact hb hk e
mutual
/-- another place where nothing stands -/
theorem Dq.more {E : Addr → Prop} {H : Hp} {l : Addr} (nl : H l = none) : ∀ (d : PyData) {v : V}, Dq E H v d → Dq (fun a => E a ∨ a = l) H v d
  | .none, _, h => by cases h; exact .non
  | .bool b, _, h => by cases h; exact .bl b
  | .int i, _, h => by cases h; exact .int i
  | .str x, _, h => by cases h; exact .str x
  | .list ds, _, h => by
    cases h with
    | lst e n t => exact .lst e (fun z => z.elim n (ne_of_none e nl)) (DqAll.more nl ds t)
  | .tuple ds, _, h => by
    cases h with
    | tup e n t => exact .tup e (fun z => z.elim n (ne_of_none e nl)) (DqAll.more nl ds t)
  | .dict kvs, _, h => by cases h
theorem DqAll.more {E : Addr → Prop} {H : Hp} {l : Addr} (nl : H l = none) : ∀ (ds : List PyData) {vs : List V}, DqAll E H vs ds → DqAll (fun a => E a ∨ a = l) H vs ds
  | [], _, h => by cases h; exact .nil
  | d :: ds, _, h => by
    cases h with
    | cons x t => exact .cons (Dq.more nl d x) (DqAll.more nl ds t)
end
mutual
theorem Dq.less {E F : Addr → Prop} {H : Hp} (f : ∀ a, F a → E a) : ∀ (d : PyData) {v : V}, Dq E H v d → Dq F H v d
  | .none, _, h => by cases h; exact .non
  | .bool b, _, h => by cases h; exact .bl b
  | .int i, _, h => by cases h; exact .int i
  | .str x, _, h => by cases h; exact .str x
  | .list ds, _, h => by
    cases h with
    | lst e n t => exact .lst e (fun z => n (f _ z)) (DqAll.less f ds t)
  | .tuple ds, _, h => by
    cases h with
    | tup e n t => exact .tup e (fun z => n (f _ z)) (DqAll.less f ds t)
  | .dict kvs, _, h => by cases h
theorem DqAll.less {E F : Addr → Prop} {H : Hp} (f : ∀ a, F a → E a) : ∀ (ds : List PyData) {vs : List V}, DqAll E H vs ds → DqAll F H vs ds
  | [], _, h => by cases h; exact .nil
  | d :: ds, _, h => by
    cases h with
    | cons x t => exact .cons (Dq.less f d x) (DqAll.less f ds t)
end
/-- things of some size -/
def Thgs (E : Addr → Prop) (H : Hp) (vs : List V) (dp wt : Nat) : Prop := ∀ v ∈ vs, ∃ d, Dq E H v d ∧ Oq d dp wt
theorem Thgs.fr {E : Addr → Prop} {H H' : Hp} {vs : List V} {dp wt : Nat} (h : Thgs E H vs dp wt) (f : FrX E H H') : Thgs E H' vs dp wt := fun v hv => by
  obtain ⟨d, a, b⟩ := h v hv
  exact ⟨d, a.fr f, b⟩
theorem Thgs.nil {E : Addr → Prop} {H : Hp} {dp wt : Nat} : Thgs E H [] dp wt := fun v hv => nomatch hv
theorem Thgs.cons {E : Addr → Prop} {H : Hp} {v : V} {vs : List V} {d : PyData} {dp wt : Nat} (h : Dq E H v d) (o : Oq d dp wt) (t : Thgs E H vs dp wt) : Thgs E H (v :: vs) dp wt := fun x hx => by
  rcases List.mem_cons.mp hx with rfl | hx
  · exact ⟨d, h, o⟩
  · exact t x hx
theorem pow29 : CPow 10 29 := ⟨by decide, by decide, by decide⟩
/-- a tuple of small ints -/
theorem tupI {E : Addr → Prop} {G : Hp} {c : Addr} {vs : List Int} (h : G c = some (.tup (vs.map V.int))) (n : ¬ E c) : TupD E G c (vs.map PyData.int) := ⟨_, h, n, DqAll.ints vs⟩
/-- each of these places holds a list -/
def LstN (N : Addr → Prop) (G : Hp) : Prop := ∀ x, N x → ∃ zs, G x = some (.lst zs)
theorem LstN.same {N : Addr → Prop} {G G' : Hp} (h : LstN N G) (s : Same G G') : LstN N G' := fun x nx => by
  obtain ⟨zs, e⟩ := h x nx
  exact ⟨zs, s _ _ e⟩
theorem LstN.fr {N : Addr → Prop} {G G' : Hp} {p : Addr} {n : Nat} (h : LstN N G) (f : Fr p G G') (hp : PotAt G' p n) : LstN N G' := fun x nx => by
  by_cases e : x = p
  · obtain ⟨g, c, u, z, _⟩ := hp
    exact ⟨_, e ▸ z⟩
  · obtain ⟨zs, z⟩ := h x nx
    exact ⟨zs, f _ _ e z⟩
theorem LstN.out {N : Addr → Prop} {G : Hp} (h : LstN N G) (c : Addr) (nc : G c = none) : ¬ N c := fun z => by
  obtain ⟨zs, e⟩ := h c z
  rw [nc] at e
  cases e
theorem LstN.tup {N : Addr → Prop} {G : Hp} {c : Addr} {us : List V} (h : LstN N G) (nc : G c = some (.tup us)) : ¬ N c := fun z => by
  obtain ⟨zs, e⟩ := h c z
  rw [nc] at e
  cases e
theorem FrX.of {N : Addr → Prop} {p : Addr} {H H' : Hp} (f : Fr p H H') (np : N p) : FrX N H H' := fun b o nb h => f b o (fun z => nb (z ▸ np)) h
section
variable {P : Program} {w : World} {K : PySem.W.Frag} {mg : Str → Option Value} {base : Heap}
abbrev NBe : List Str := ["_law_pot_here", "_law_wide", "_law_high", "_law_pick_here", "_law_side", "_law_some", "_law_most", "_law_odd", "_law_at", "_law_bends", "_law_one", "_law_part", "_law_bent_here"]
theorem scBent : FnScope NBe ["_law_pot_here", "_law_wide", "_law_high", "_law_pick_here"] (defScope sBent) := ⟨rfl, rfl, rfl, by decide +kernel, rfl, by decide +kernel, by decide +kernel⟩
def spBent : Sp := fun vs H Q _ => ∃ (p t : Addr) (a b n : Nat) (xs ys : List Int) (N : Addr → Prop), vs = [.ref p, .int (a : Int), .int (b : Int), .ref t] ∧ a ≤ 40 ∧ b ≤ 40 ∧ PotAt H p n ∧ n < 900000 ∧ PickAt H t a b xs ys ∧ N p ∧ LstN N H ∧
  ∀ (v : V) (d : PyData) H', Fr p H H' → PotAt H' p (n + 4) → TF N H' v d → Q v H'
theorem ok_bent {f fO fT : Addr} {fd fdO fdT : FuncData} {k : Nat} (F : Fun K "_law_bent" "_law_bent" sBent f fd) (FO : Fun K "_law_of" "_law_of" sOf fO fdO) (FT : Fun K "_law_take" "_law_take" sTake fT fdT) (bO : Binds K fdO ["_law_pot_here", "_law_some"] []) (bT : Binds K fdT ["_law_pot_here", "_law_many"] [])
    (gO : mg "_law_of" = some (.ref fO)) (gT : mg "_law_take" = some (.ref fT)) (ml : mg "len" = none) (mlist : mg "list" = none) : FnOk P w K mg base CX0 (k + 3) f fd ["_law_pot_here", "_law_wide", "_law_high", "_law_pick_here"] spBent := by
  have GT : FnOk P w K mg base CX0 1 fT fdT ["_law_pot_here", "_law_many"] spTake := ok_take FT
  have GO : FnOk P w K mg base CX0 (k + 2) fO fdO ["_law_pot_here", "_law_some"] (spOf K) := ok_of FO FT bT gT ml
  refine F.ok scBent (fun vs H Q E h => ?_) (fun cdv A outer s H vs Q E hr h => ?_)
  · obtain ⟨p, t, a, b, n, xs, ys, N, rfl, _⟩ := h
    rfl
  · obtain ⟨p, t, a, b, n, xs, ys, N, rfl, a40, b40, hP, hn, pk, np, lN, q⟩ := h
    have nd := scBent.nd
    refine ⟨_, pss_cons (ps_set (i := 4) nd rfl (.inl rfl) (pe_call GT (hr.mono (by omega)) (by rfl) gT FT.kp bT .nil pass0 (pa_cons (pv 0) (pa_cons pe_int pa_nil))))
      (pss_cons (ps_par (i := 5) (j := 6) rfl nd rfl rfl (by decide) rfl rfl (pa_cons (pe_ix ix_tup (pv 3) (pv 4) (fun _ _ => rfl)) (pa_cons (pe_ix ix_list (pe_lst (pa_cons (pv 1) (pa_cons (pv 2) pa_nil))) (pv 4) (fun _ _ => rfl)) pa_nil)) rfl)
      (pss_cons (ps_set (i := 7) nd rfl (.inl rfl) (pe_lst (pa_cons (pv 6) (pa_cons (pe_op op_add (pv 6) pe_int) (pa_cons (pe_un un_neg pe_int) (pa_cons pe_int (pa_cons pe_bl (pa_cons pe_bl (pa_cons pe_non (pa_cons pe_str (pa_cons (pe_tup (pa_cons pe_int pa_nil)) (pa_cons (pe_op op_pow pe_int pe_int) pa_nil))))))))))))
      (pss_cons (ps_set (i := 8) nd rfl (.inl rfl) (pe_call GT (hr.mono (by omega)) (by rfl) gT FT.kp bT .nil pass0 (pa_cons (pv 0) (pa_cons (pe_op op_add (pe_callB call_len_seq (by rfl) ml PySem.boot_len (pa_cons (pv 5) pa_nil)) pe_int) pa_nil))))
      (pss_cons (ps_set (i := 9) nd rfl (.inl rfl) (pe_lst (pa_cons (pe_op op_catA (pv 5) (pe_tup (pa_cons pe_int pa_nil))) (pa_cons (pe_slice sl_tupA (pv 5) po_none (po_some (pe_un un_neg pe_int))) (pa_cons (pe_callTy call_list_of (by rfl) mlist (by decide +kernel) (pa_cons (pv 5) pa_nil)) (pa_cons (pe_backT (pv 5)) (pa_cons pe_non (pa_cons (pe_tup pa_nil) (pa_cons (pe_op op_catA (pv 5) (pe_tup (pa_cons pe_non pa_nil))) pa_nil)))))))))
      (pss_cons (ps_for PassesOwn.never rfl (pi_list (pv 7)) (pg_name (i := 10) nd rfl (.inl rfl)) (pss_one (ps_expr (pe_bm PySem.F.plainAttrs_list PySem.F.slot_list_append PySem.F.type_list_append mt_append (pv 9) (pa_cons (pe_op op_catA (pe_op op_catA (pe_slice sl_tupA (pv 5) po_none (po_some (pv 8))) (pe_tup (pa_cons (pv 10) pa_nil))) (pe_slice sl_tupA (pv 5) (po_some (pe_op op_add (pv 8) pe_int)) po_none)) pa_nil)))))
      (pss_cons (ps_set (i := 11) nd rfl (.inl rfl) (pe_call GO hr (by rfl) gO FO.kp bO .nil pass0 (pa_cons (pv 0) (pa_cons (pv 9) pa_nil))))
      (pss_cons (ps_set (i := 12) nd rfl (.inl rfl) (pe_ifExp (pt_cmpR op_eq (pv 4) pe_int (nomark _)) (pe_tup (pa_cons (pv 11) (pa_cons (pe_ix ix_tup (pv 3) pe_int (fun _ _ => rfl)) pa_nil))) (pe_tup (pa_cons (pe_ix ix_tup (pv 3) pe_int (fun _ _ => rfl)) (pa_cons (pv 11) pa_nil)))))
      (pss_one (ps_ret (pe_call GO hr (by rfl) gO FO.kp bO .nil pass0 (pa_cons (pv 0) (pa_cons (pe_lst (pa_cons (pv 12) (pa_cons (pv 12) (pa_cons (pv 12) (pa_cons (pe_backT (pv 3)) (pa_cons (pe_callTy call_list_of (by rfl) mlist (by decide +kernel) (pa_cons (pv 3) pa_nil)) (pa_cons (pe_op op_catA (pv 3) (pe_tup (pa_cons (pe_tup pa_nil) pa_nil))) (pa_cons (pe_slice sl_tupA (pv 3) po_none (po_some pe_int)) (pa_cons (pe_tup (pa_cons (pv 3) pa_nil)) (pa_cons (pe_op op_catA (pe_ix ix_tup (pv 3) pe_int (fun _ _ => rfl)) (pe_ix ix_tup (pv 3) pe_int (fun _ _ => rfl))) pa_nil)))))))))) pa_nil)))))))))))), ?_⟩
    refine ⟨.ref p, rfl, p, 2, n, rfl, hP, by omega, by decide, by decide, fun side H1 f1 P1 s0 s1 => ?_⟩
    have neT : ∀ {G : Hp} {x : Addr} {m : Nat} {o : List V}, PotAt G p m → G x = some (.tup o) → x ≠ p := fun h e z => by
      obtain ⟨_, _, _, h, _⟩ := h
      rw [z, h] at e; cases e
    obtain ⟨tx, ty, k1, k2, k3, l1, l2, u1, u2⟩ := id pk
    have nt : t ≠ p := neT hP k1
    have nx : tx ≠ p := neT hP k2
    have ny : ty ≠ p := neT hP k3
    have L1N := lN.fr f1 P1
    have K1 := f1 _ _ nt k1
    have K2 := f1 _ _ nx k2
    have K3 := f1 _ _ ny k3
    obtain ⟨c, most, vs, hc, hm, hcv, lv, uv, m40, ncp⟩ : ∃ (c : Addr) (most : Nat) (vs : List Int), atI [V.ref tx, V.ref ty] side = some (.ref c) ∧ atI [V.int (a : Int), V.int (b : Int)] side = some (.int (most : Int)) ∧ H1 c = some (.tup (vs.map V.int)) ∧ vs.length ≤ 40 ∧ Upto 40 vs ∧ most ≤ 40 ∧ c ≠ p := by
      rcases (show side = 0 ∨ side = 1 by omega) with rfl | rfl
      · exact ⟨tx, a, xs, rfl, rfl, K2, by omega, fun v hv => by have := u1 v hv; omega, a40, nx⟩
      · exact ⟨ty, b, ys, rfl, rfl, K3, by omega, fun v hv => by have := u2 v hv; omega, b40, ny⟩
    refine ⟨.ref t, rfl, .int side, rfl, t, _, side, .ref c, rfl, rfl, .inl (.inl K1), hc, .int (a : Int), rfl, .int (b : Int), rfl, by show 2 ≤ sizeLine; decide, fun l2 nl2 => ⟨.int side, rfl, l2, _, side, .int (most : Int), rfl, rfl, .inl (.inl upd_same), hm, _, _, rfl, ?_⟩⟩
    have e2 := same_upd (o := .lst [.int (a : Int), .int (b : Int)]) nl2
    have P2 := P1.same e2
    refine ⟨.int (most : Int), rfl, .int (most : Int), rfl, _, _, rfl, rfl, 1, rfl, by show 1 ≤ sizeLine; decide, fun t0 n0 => ⟨10, 29, rfl, rfl, pow29, by show 10 ≤ sizeLine; decide, fun l7 n7 => ?_⟩⟩
    have e3 := same_upd (o := .tup [.int 0]) n0
    have P3 := P2.same e3
    have Dt0 : TupD N (upd (upd H1 l2 (.lst [.int (a : Int), .int (b : Int)])) t0 (.tup [.int 0])) t0 [PyData.int 0] := ⟨_, upd_same, (L1N.same e2).out t0 n0, .cons (.int 0) .nil⟩
    have odd : Thgs N (upd (upd H1 l2 (.lst [.int (a : Int), .int (b : Int)])) t0 (.tup [.int 0])) [.int (most : Int), .int ((most : Int) + 1), .int (-1), .int 0, .bl true, .bl false, .non, .str "0", .ref t0, .int ((10 : Int) ^ (29 : Int).toNat)] 1 101 := by
      have up : ∀ {d : PyData}, Oq d 0 100 → Oq d 1 101 := fun h => h.mono (by decide) (by decide)
      exact .cons (.int _) (up (oq_int (by omega) (by omega))) (.cons (.int _) (up (oq_int (by omega) (by omega))) (.cons (.int _) (up oq_less) (.cons (.int _) (up (oq_int (by decide) (by decide))) (.cons (.bl _) (up (oq_bl _)) (.cons (.bl _) (up (oq_bl _)) (.cons .non (up oq_non)
        (.cons (.str _) (up oq_str0) (.cons Dt0.dq (Oq.tup (dp := 0) (wt := 100) (n := 1) (fun d hd => by rw [List.mem_singleton.mp hd]; exact oq_int (by decide) (by decide)) (by decide)) (.cons (.int _) (up oq_great) .nil)))))))))
    have e4 := same_upd (o := .lst [.int (most : Int), .int ((most : Int) + 1), .int (-1), .int 0, .bl true, .bl false, .non, .str "0", .ref t0, .int ((10 : Int) ^ (29 : Int).toNat)]) n7
    have P4 := P3.same e4
    have odd4 := odd.fr (FrX.same e4)
    have h7 := upd_same (H := upd (upd H1 l2 (.lst [.int (a : Int), .int (b : Int)])) t0 (.tup [.int 0])) (a := l7) (o := .lst [.int (most : Int), .int ((most : Int) + 1), .int (-1), .int 0, .bl true, .bl false, .non, .str "0", .ref t0, .int ((10 : Int) ^ (29 : Int).toNat)])
    have n7p : l7 ≠ p := P3.ne n7
    have e24 := e2.trans (e3.trans e4)
    have f4 : Fr p H _ := f1.trans (Fr.same e24)
    have hc4 := e24 _ _ hcv
    have ncN : ¬ N c := L1N.tup hcv
    have L4N := L1N.same e24
    have G1 := e24 _ _ K1
    have G2 := e24 _ _ K2
    have G3 := e24 _ _ K3
    generalize upd (upd (upd H1 l2 (.lst [.int (a : Int), .int (b : Int)])) t0 (.tup [.int 0])) l7 (.lst [.int (most : Int), .int ((most : Int) + 1), .int (-1), .int 0, .bl true, .bl false, .non, .str "0", .ref t0, .int ((10 : Int) ^ (29 : Int).toNat)]) = M4 at P4 odd4 h7 f4 hc4 G1 G2 G3 L4N
    have lo10 : [V.int (most : Int), .int ((most : Int) + 1), .int (-1), .int 0, .bl true, .bl false, .non, .str "0", .ref t0, .int ((10 : Int) ^ (29 : Int).toNat)].length = 10 := rfl
    generalize [V.int (most : Int), .int ((most : Int) + 1), .int (-1), .int 0, .bl true, .bl false, .non, .str "0", .ref t0, .int ((10 : Int) ^ (29 : Int).toNat)] = os at odd4 h7 lo10
    show tSeq _ _ _ [some (.ref p), some (.int (a : Int)), some (.int (b : Int)), some (.ref t), some (.int side), some (.ref c), some (.int (most : Int)), some (.ref l7), none, none, none, none, none] _
    refine ⟨.ref p, rfl, .ref c, rfl, c, _, rfl, .inr (.inl (.inl hc4)), _, _, rfl, rfl, p, _, n + 1, rfl, P4, by omega, by omega, by rw [List.length_map]; omega, fun at_ H5 f5 P5 a0 a1 => ?_⟩
    have f45 := f4.trans f5
    have h7' := f5 _ _ n7p h7
    have odd5 := odd4.fr (FrX.of f5 np)
    have hc5 := f5 _ _ ncp hc4
    have L5N := L4N.fr f5 P5
    have J1 := f5 _ _ nt G1
    have J2 := f5 _ _ nx G2
    have J3 := f5 _ _ ny G3
    show tSeq _ _ _ [some (.ref p), some (.int (a : Int)), some (.int (b : Int)), some (.ref t), some (.int side), some (.ref c), some (.int (most : Int)), some (.ref l7), some (.int at_), none, none, none, none] _
    -- the first bends
    have leaf : ∀ d ∈ vs.map PyData.int, Oq d 0 100 := oq_ints (by decide) uv
    have lvd : (vs.map PyData.int).length ≤ 40 := by rw [List.length_map]; exact lv
    have up2 : ∀ {d : PyData}, Oq d 1 9090 → Oq d 2 9180 := fun h => h.mono (by decide) (by decide)
    have flat : ∀ {ds : List PyData}, (∀ d ∈ ds, Oq d 0 100) → ds.length ≤ 90 → Oq (.tuple ds) 1 9090 := fun h l => Oq.tup h l
    have tc5 := tupI (E := N) hc5 ncN
    refine ⟨.ref c, rfl, by show 1 ≤ sizeLine; decide, fun t1 n1 => ?_⟩
    have s1' := same_upd (o := .tup [.int 0]) n1
    have Q1 := P5.same s1'
    have d1 : TupD N (upd H5 t1 (.tup [.int 0])) t1 [PyData.int 0] := ⟨_, upd_same, L5N.out t1 n1, .cons (.int 0) .nil⟩
    refine cat_ok (L5N.same s1').out (tc5.fr (FrX.same s1')) d1 (by rw [List.length_singleton]; omega) fun c1 M1 m1 D1 => ?_
    have O1 : Oq (.tuple (vs.map PyData.int ++ [PyData.int 0])) 1 9090 := flat (fun d hd => (List.mem_append.mp hd).elim (leaf d) fun z => by rw [List.mem_singleton.mp z]; exact oq_int (by decide) (by decide)) (by rw [List.length_append, List.length_singleton]; omega)
    have S1 := s1'.trans m1
    have R1 := P5.same S1
    refine ⟨.ref c, rfl, 1, rfl, -1, rfl, ?_⟩
    refine sl_ok (L5N.same S1).out (tc5.fr (FrX.same S1)) fun c2 M2 es2 m2 D2 sub2 => ?_
    have O2 : Oq (.tuple es2) 1 9090 := flat (fun d hd => leaf d (sub2.subset hd)) (Nat.le_trans sub2.length_le (by omega))
    have S2 := S1.trans m2
    have R2 := P5.same S2
    refine ⟨.ref c, rfl, c, _, rfl, .inr (.inl (.inl (S2 _ _ hc5))), fun la na => ?_⟩
    have m3 := same_upd (o := .lst (vs.map V.int)) na
    have S3 := S2.trans m3
    have R3 := P5.same S3
    have D3 : Dq N (upd M2 la (.lst (vs.map V.int))) (.ref la) (.list (vs.map PyData.int)) := .lst upd_same ((L5N.same S2).out la na) (DqAll.ints vs)
    have O3 : Oq (.list (vs.map PyData.int)) 1 9090 := Oq.lst (n := 90) leaf (by omega)
    generalize upd M2 la (.lst (vs.map V.int)) = M3 at m3 S3 R3 D3
    refine back_ok (L5N.same S3).out (tc5.fr (FrX.same S3)) (fun R h => ⟨.ref c, rfl, h⟩) fun c4 M4' m4 D4 => ?_
    have O4 : Oq (.tuple (vs.map PyData.int).reverse) 1 9090 := flat (fun d hd => leaf d (List.mem_reverse.mp hd)) (by rw [List.length_reverse]; omega)
    have S4 := S3.trans m4
    have R4 := P5.same S4
    refine ⟨by decide, fun t5 n5 => ?_⟩
    have m5 := same_upd (o := .tup []) n5
    have S5 := S4.trans m5
    have R5 := P5.same S5
    have D5 : TupD N (upd M4' t5 (.tup [])) t5 [] := ⟨_, upd_same, (L5N.same S4).out t5 n5, .nil⟩
    have O5 : Oq (.tuple []) 1 9090 := flat (fun d hd => nomatch hd) (by decide)
    generalize upd M4' t5 (.tup []) = M5 at m5 S5 R5 D5
    refine ⟨.ref c, rfl, by show 1 ≤ sizeLine; decide, fun t6 n6 => ?_⟩
    have m6 := same_upd (o := .tup [.non]) n6
    have S6 := S5.trans m6
    have R6 := P5.same S6
    have d6 : TupD N (upd M5 t6 (.tup [.non])) t6 [PyData.none] := ⟨_, upd_same, (L5N.same S5).out t6 n6, .cons .non .nil⟩
    refine cat_ok (L5N.same S6).out (tc5.fr (FrX.same S6)) d6 (by rw [List.length_singleton]; omega) fun c7 M7 m7 D7 => ?_
    have O7 : Oq (.tuple (vs.map PyData.int ++ [PyData.none])) 1 9090 := flat (fun d hd => (List.mem_append.mp hd).elim (leaf d) fun z => by rw [List.mem_singleton.mp z]; exact oq_non) (by rw [List.length_append, List.length_singleton]; omega)
    have S7 := S6.trans m7
    have R7 := P5.same S7
    refine ⟨by show 7 ≤ sizeLine; decide, fun l9 n9 => ?_⟩
    have b0 : Thgs N M7 [.ref c1, .ref c2, .ref la, .ref c4, .non, .ref t5, .ref c7] 2 9180 :=
      .cons (D1.fr (FrX.same (m2.trans (m3.trans (m4.trans (m5.trans (m6.trans m7))))))).dq (up2 O1) (.cons (D2.fr (FrX.same (m3.trans (m4.trans (m5.trans (m6.trans m7)))))).dq (up2 O2) (.cons (D3.fr (FrX.same (m4.trans (m5.trans (m6.trans m7))))) (up2 O3)
        (.cons (D4.fr (FrX.same (m5.trans (m6.trans m7)))).dq (up2 O4) (.cons .non (oq_non.mono (by decide) (by decide)) (.cons (D5.fr (FrX.same (m6.trans m7))).dq (up2 O5) (.cons D7.dq (up2 O7) .nil))))))
    have m9 := same_upd (o := .lst [.ref c1, .ref c2, .ref la, .ref c4, .non, .ref t5, .ref c7]) n9
    have b9 : Thgs (fun a => N a ∨ a = l9) (upd M7 l9 (.lst [.ref c1, .ref c2, .ref la, .ref c4, .non, .ref t5, .ref c7])) [.ref c1, .ref c2, .ref la, .ref c4, .non, .ref t5, .ref c7] 2 9180 := fun v hv => by
      obtain ⟨d, x, y⟩ := b0 v hv
      exact ⟨d, (x.more n9).fr (FrX.same m9), y⟩
    have o9 : Thgs (fun a => N a ∨ a = l9) (upd M7 l9 (.lst [.ref c1, .ref c2, .ref la, .ref c4, .non, .ref t5, .ref c7])) os 1 101 := fun v hv => by
      obtain ⟨d, x, y⟩ := odd5 v hv
      exact ⟨d, ((x.fr (FrX.same S7)).more n9).fr (FrX.same m9), y⟩
    have h9 := upd_same (H := M7) (a := l9) (o := .lst [.ref c1, .ref c2, .ref la, .ref c4, .non, .ref t5, .ref c7])
    have S9 := S7.trans m9
    have P9 := P5.same S9
    have L9N := L5N.same S9
    have n9p : l9 ≠ p := R7.ne n9
    have h79 := S9 _ _ h7'
    have hc9 := S9 _ _ hc5
    have L1 := S9 _ _ J1
    have L2 := S9 _ _ J2
    have L3 := S9 _ _ J3
    have ne79 : l7 ≠ l9 := fun z => by rw [← z, S7 _ _ h7'] at n9; cases n9
    have neT9 : ∀ {G : Hp} {x : Addr} {zs o : List V}, G l9 = some (.lst zs) → G x = some (.tup o) → x ≠ l9 := fun h e z => by
      rw [z, h] at e; cases e
    generalize upd M7 l9 (.lst [.ref c1, .ref c2, .ref la, .ref c4, .non, .ref t5, .ref c7]) = M9 at m9 b9 o9 h9 S9 P9 h79 hc9 L1 L2 L3 L9N
    have nc9 : c ≠ l9 := neT9 h9 hc9
    show tSeq _ _ _ [some (.ref p), some (.int (a : Int)), some (.int (b : Int)), some (.ref t), some (.int side), some (.ref c), some (.int (most : Int)), some (.ref l7), some (.int at_), some (.ref l9), none, none, none] _
    refine ⟨.ref l7, rfl, l7, rfl, ⟨_, .inl (.inl h79)⟩, ?_⟩
    refine for_list (xs := os) (fun i σ G => Fr l9 M9 G ∧ (∃ bs, G l9 = some (.lst bs) ∧ Thgs (fun a => N a ∨ a = l9) G bs 2 9180 ∧ bs.length = 7 + i) ∧ ∃ y10, σ = [some (.ref p), some (.int (a : Int)), some (.int (b : Int)), some (.ref t), some (.int side), some (.ref c), some (.int (most : Int)), some (.ref l7), some (.int at_), some (.ref l9), y10, none, none])
      ⟨Fr.refl _ _, ⟨_, h9, b9, rfl⟩, _, rfl⟩ (fun i σ G _ h => .inl (.inl (h.1 _ _ ne79 h79))) ?_ ?_
    · rintro i one σ G hone ⟨fr, ⟨bs, hbs, tb, lb⟩, y10, rfl⟩
      have i10 : i < os.length := (List.getElem?_eq_some_iff.mp hone).1
      obtain ⟨d1, q1, w1⟩ := o9 one (List.mem_of_getElem? hone)
      have fx : FrX (fun a => N a ∨ a = l9) M9 G := fun b' o' nb hb' => fr b' o' (fun z => nb (.inr z)) hb'
      have q1' := q1.fr fx
      have PG : PotAt G p (n + 2) := by
        obtain ⟨g, cc, u, hp', r⟩ := P9
        exact ⟨g, cc, u, fr _ _ n9p.symm hp', r⟩
      have hcG := fr _ _ nc9 hc9
      have tcG := tupI (E := fun a => N a ∨ a = l9) hcG (fun z => z.elim ncN nc9)
      have LG : LstN N G := fun x hx => by
        by_cases e : x = l9
        · exact ⟨bs, e ▸ hbs⟩
        · obtain ⟨zs, z⟩ := L9N x hx
          exact ⟨zs, fr _ _ e z⟩
      have out : ∀ {G' : Hp}, Same G G' → ∀ x, G' x = none → ¬ (N x ∨ x = l9) := fun s x nx' z => z.elim ((LG.same s).out x nx') (fun z => by rw [z, s _ _ hbs] at nx'; cases nx')
      refine ⟨.ref l9, rfl, .inl ⟨rfl, _, .inl (.inl hbs)⟩, ?_⟩
      refine ⟨.ref c, rfl, .int at_, rfl, at_, rfl, ?_⟩
      refine sl_ok (out (Same.refl _)) tcG fun x1 A1 es1 v1 T1 sub1 => ?_
      refine ⟨one, rfl, by show 1 ≤ sizeLine; decide, fun x2 nx2 => ?_⟩
      have v2 := same_upd (o := .tup [one]) nx2
      have T2 : TupD (fun a => N a ∨ a = l9) (upd A1 x2 (.tup [one])) x2 [d1] := ⟨_, upd_same, out v1 x2 nx2, .cons (q1'.fr (FrX.same (v1.trans v2))) .nil⟩
      refine cat_ok (out (v1.trans v2)) (T1.fr (FrX.same v2)) T2 (by have := sub1.length_le; rw [List.length_singleton]; omega) fun x3 A3 v3 T3 => ?_
      refine ⟨.ref c, rfl, .int at_, rfl, at_, 1, rfl, rfl, at_ + 1, rfl, ?_⟩
      have v13 := v1.trans (v2.trans v3)
      show tNoPart _ A3 _
      unfold tNoPart
      refine sl_ok (out v13) (tcG.fr (FrX.same v13)) fun x4 A4 es4 v4 T4 sub4 => ?_
      have v14 := v13.trans v4
      refine cat_ok (out v14) (T3.fr (FrX.same v4)) T4 (by have := sub1.length_le; have := sub4.length_le; rw [List.length_append, List.length_singleton]; omega) fun x5 A5 v5 T5 => ?_
      have v15 := v14.trans v5
      have up1 : ∀ d ∈ vs.map PyData.int, Oq d 1 101 := fun d hd => (leaf d hd).mono (by decide) (by decide)
      have O5 : Oq (.tuple ((es1 ++ [d1]) ++ es4)) 2 9180 := Oq.tup (dp := 1) (wt := 101) (n := 90) (fun d hd => by
        rcases List.mem_append.mp hd with hd | hd
        · rcases List.mem_append.mp hd with hd | hd
          · exact up1 d (sub1.subset hd)
          · rw [List.mem_singleton.mp hd]; exact w1
        · exact up1 d (sub4.subset hd)) (by have := sub1.length_le; have := sub4.length_le; rw [List.length_append, List.length_append, List.length_singleton]; omega)
      refine ⟨l9, bs, .ref x5, rfl, rfl, v15 _ _ hbs, Nat.lt_of_lt_of_le (show bs.length < 2000 by omega) (by decide), ?_⟩
      have fl : Fr l9 M9 (upd A5 l9 (.lst (bs ++ [.ref x5]))) := fun b' o' nb hb' => by
        rw [upd_ne nb]
        exact v15 _ _ (fr _ _ nb hb')
      have fu : FrX (fun a => N a ∨ a = l9) A5 (upd A5 l9 (.lst (bs ++ [.ref x5]))) := fun b' o' nb hb' => by
        rw [upd_ne (fun z => nb (.inr z))]
        exact hb'
      refine ⟨fl, ⟨_, upd_same, fun v hv => ?_, by rw [List.length_append, List.length_singleton]; omega⟩, _, rfl⟩
      rcases List.mem_append.mp hv with hv | hv
      · exact (((tb.fr (FrX.same v15)).fr fu)) v hv
      · rw [List.mem_singleton.mp hv]
        exact ⟨_, T5.dq.fr fu, O5⟩
    · rintro σ G ⟨fr, ⟨bs, hbs, tb, lb⟩, y10, rfl⟩
      have PG : PotAt G p (n + 2) := by
        obtain ⟨g, cc, u, hp', r⟩ := P9
        exact ⟨g, cc, u, fr _ _ n9p.symm hp', r⟩
      have LG : LstN N G := fun x hx => by
        by_cases e : x = l9
        · exact ⟨bs, e ▸ hbs⟩
        · obtain ⟨zs, z⟩ := L9N x hx
          exact ⟨zs, fr _ _ e z⟩
      have nt9 : t ≠ l9 := neT9 h9 L1
      have nx9 : tx ≠ l9 := neT9 h9 L2
      have ny9 : ty ≠ l9 := neT9 h9 L3
      have B1 := fr _ _ nt9 L1
      have B2 := fr _ _ nx9 L2
      have B3 := fr _ _ ny9 L3
      have frG : Fr p H G := fun b' o' nb hb' => by
        have z := f45 _ _ nb hb'
        have z9 := S9 _ _ z
        have ne : b' ≠ l9 := ne_of_none (S7 _ _ z) n9
        exact fr _ _ ne z9
      refine ⟨.ref p, rfl, .ref l9, rfl, p, l9, bs, n + 2, rfl, PG, by omega, n9p, .inl (.inl hbs), by omega, by omega, fun part H8 f8 P8 mem => ?_⟩
      obtain ⟨dp, qp, wp⟩ := tb part mem
      have qp8 := (qp.less (F := N) fun a z => .inl z).fr (FrX.of f8 np)
      have C1 := f8 _ _ nt B1
      have C2 := f8 _ _ nx B2
      have C3 := f8 _ _ ny B3
      have fr8 := frG.trans f8
      have L8N := LG.fr f8 P8
      have tx8 := tupI (E := N) C2 (L8N.tup C2)
      have ty8 := tupI (E := N) C3 (L8N.tup C3)
      have lfx : ∀ d ∈ xs.map PyData.int, Oq d 0 100 := oq_ints (by omega) u1
      have lfy : ∀ d ∈ ys.map PyData.int, Oq d 0 100 := oq_ints (by omega) u2
      have Ox : Oq (.tuple (xs.map PyData.int)) 1 9090 := flat lfx (by rw [List.length_map]; omega)
      have Oy : Oq (.tuple (ys.map PyData.int)) 1 9090 := flat lfy (by rw [List.length_map]; omega)
      have t8 : TupD N H8 t [.tuple (xs.map PyData.int), .tuple (ys.map PyData.int)] := ⟨_, C1, L8N.tup C1, .cons tx8.dq (.cons ty8.dq .nil)⟩
      have pair : ∀ d ∈ [PyData.tuple (xs.map PyData.int), .tuple (ys.map PyData.int)], Oq d 1 9090 := fun d hd => by
        rcases List.mem_cons.mp hd with rfl | hd
        · exact Ox
        · rw [List.mem_singleton.mp hd]; exact Oy
      show tSeq _ _ _ [some (.ref p), some (.int (a : Int)), some (.int (b : Int)), some (.ref t), some (.int side), some (.ref c), some (.int (most : Int)), some (.ref l7), some (.int at_), some (.ref l9), y10, some part, none] _
      refine ⟨.int side, rfl, rfl, _, rfl, ?_⟩
      refine both_of (fun x H' => ∃ (tb : Addr) (ds : List PyData), x = .ref tb ∧ Same H8 H' ∧ TupD N H' tb ds ∧ Oq (.tuple ds) 3 27543) ?_ (fun hk e => ?_) (fun hk e => ?_)
      rotate_left
      · refine ⟨part, rfl, .ref t, rfl, t, _, 1, .ref ty, rfl, rfl, .inl (.inl C1), rfl, by show 2 ≤ sizeLine; decide, fun tb nb => hk _ _ ⟨tb, [dp, .tuple (ys.map PyData.int)], rfl, same_upd nb, ⟨_, upd_same, L8N.out tb nb, .cons (qp8.fr (FrX.same (same_upd nb))) (.cons (ty8.dq.fr (FrX.same (same_upd nb))) .nil)⟩, ?_⟩⟩
        exact Oq.tup (dp := 2) (wt := 9180) (n := 3) (fun d hd => by
          rcases List.mem_cons.mp hd with rfl | hd
          · exact wp
          · rw [List.mem_singleton.mp hd]; exact up2 Oy) (by show 2 ≤ 3; decide)
      · refine ⟨.ref t, rfl, t, _, 0, .ref tx, rfl, rfl, .inl (.inl C1), rfl, part, rfl, by show 2 ≤ sizeLine; decide, fun tb nb => hk _ _ ⟨tb, [.tuple (xs.map PyData.int), dp], rfl, same_upd nb, ⟨_, upd_same, L8N.out tb nb, .cons (tx8.dq.fr (FrX.same (same_upd nb))) (.cons (qp8.fr (FrX.same (same_upd nb))) .nil)⟩, ?_⟩⟩
        exact Oq.tup (dp := 2) (wt := 9180) (n := 3) (fun d hd => by
          rcases List.mem_cons.mp hd with rfl | hd
          · exact up2 Ox
          · rw [List.mem_singleton.mp hd]; exact wp) (by show 2 ≤ 3; decide)
      · rintro _ H9 ⟨tb, dsb, rfl, z9, TB, OB⟩
        have P10 := P8.same z9
        have t9 := t8.fr (FrX.same z9)
        have LZ := L8N.same z9
        refine gName_run ?_
        dsimp only
        refine ⟨.ref p, rfl, .ref tb, rfl, .ref tb, rfl, .ref tb, rfl, ?_⟩
        refine back_ok LZ.out t9 (fun R h => ⟨.ref t, rfl, h⟩) fun g1 N1 r1 E1 => ?_
        have P11 := P10.same r1
        refine ⟨.ref t, rfl, t, _, rfl, .inr (.inl (.inl (r1 _ _ (z9 _ _ C1)))), fun g2 ng2 => ?_⟩
        have r2 := same_upd (o := .lst [.ref tx, .ref ty]) ng2
        have r12 := r1.trans r2
        have P12 := P10.same r12
        have E2 : Dq N (upd N1 g2 (.lst [.ref tx, .ref ty])) (.ref g2) (.list [.tuple (xs.map PyData.int), .tuple (ys.map PyData.int)]) := .lst upd_same ((LZ.same r1).out g2 ng2) (.cons (tx8.dq.fr (FrX.same (z9.trans r12))) (.cons (ty8.dq.fr (FrX.same (z9.trans r12))) .nil))
        generalize upd N1 g2 (.lst [.ref tx, .ref ty]) = N2 at r2 r12 P12 E2
        refine ⟨.ref t, rfl, by decide, fun g3 ng3 => ⟨by show 1 ≤ sizeLine; decide, fun g4 ng4 => ?_⟩⟩
        have r3 := same_upd (o := .tup []) ng3
        have r4 := same_upd (o := .tup [.ref g3]) ng4
        have r14 := r12.trans (r3.trans r4)
        have P14 := P10.same r14
        have E3 : TupD N (upd N2 g3 (.tup [])) g3 [] := ⟨_, upd_same, (LZ.same r12).out g3 ng3, .nil⟩
        have E4 : TupD N (upd (upd N2 g3 (.tup [])) g4 (.tup [.ref g3])) g4 [.tuple []] := ⟨_, upd_same, ((LZ.same r12).same r3).out g4 ng4, .cons (E3.dq.fr (FrX.same r4)) .nil⟩
        generalize upd (upd N2 g3 (.tup [])) g4 (.tup [.ref g3]) = N4 at r4 r14 P14 E4
        refine cat_ok (LZ.same r14).out (t9.fr (FrX.same r14)) E4 (by show 3 ≤ 1000; decide) fun g5 N5 r5 E5 => ?_
        have r15 := r14.trans r5
        have P15 := P10.same r15
        refine ⟨.ref t, rfl, 1, rfl, ?_⟩
        refine sl_ok (LZ.same r15).out (t9.fr (FrX.same r15)) fun g6 N6 es6 r6 E6 sub6 => ?_
        have r16 := r15.trans r6
        have P16 := P10.same r16
        refine ⟨.ref t, rfl, by show 1 ≤ sizeLine; decide, fun g7 ng7 => ?_⟩
        have r7 := same_upd (o := .tup [.ref t]) ng7
        have r17 := r16.trans r7
        have P17 := P10.same r17
        have E7 : TupD N (upd N6 g7 (.tup [.ref t])) g7 [.tuple [.tuple (xs.map PyData.int), .tuple (ys.map PyData.int)]] := ⟨_, upd_same, (LZ.same r16).out g7 ng7, .cons (t9.dq.fr (FrX.same r17)) .nil⟩
        generalize upd N6 g7 (.tup [.ref t]) = N7 at r7 r17 P17 E7
        have C1' := r17 _ _ (z9 _ _ C1)
        refine ⟨.ref t, rfl, t, _, 0, .ref tx, rfl, rfl, .inl (.inl C1'), rfl, .ref t, rfl, t, _, 1, .ref ty, rfl, rfl, .inl (.inl C1'), rfl, ?_⟩
        refine cat_ok (LZ.same r17).out (tx8.fr (FrX.same (z9.trans r17))) (ty8.fr (FrX.same (z9.trans r17))) (by rw [List.length_map, List.length_map]; omega) fun g8 N8 r8 E8 => ?_
        have r18 := r17.trans r8
        have P18 := P10.same r18
        refine ⟨by show 9 ≤ sizeLine; decide, fun l10 n10 => ?_⟩
        have r9 := same_upd (o := .lst [.ref tb, .ref tb, .ref tb, .ref g1, .ref g2, .ref g5, .ref g6, .ref g7, .ref g8]) n10
        have fin : Thgs N N8 [.ref tb, .ref tb, .ref tb, .ref g1, .ref g2, .ref g5, .ref g6, .ref g7, .ref g8] 4 30000 := by
          have ob : Oq (.tuple dsb) 4 30000 := OB.mono (by decide) (by decide)
          have tbq := (TB.fr (FrX.same r18)).dq
          refine .cons tbq ob (.cons tbq ob (.cons tbq ob (.cons (E1.fr (FrX.same (r2.trans ((r3.trans r4).trans (r5.trans (r6.trans (r7.trans r8))))))).dq ?_ (.cons (E2.fr (FrX.same ((r3.trans r4).trans (r5.trans (r6.trans (r7.trans r8)))))) ?_ (.cons (E5.fr (FrX.same (r6.trans (r7.trans r8)))).dq ?_ (.cons (E6.fr (FrX.same (r7.trans r8))).dq ?_ (.cons (E7.fr (FrX.same r8)).dq ?_ (.cons E8.dq ?_ .nil))))))))
          · exact (Oq.tup (n := 3) (fun d hd => pair d (List.mem_reverse.mp hd)) (by show 2 ≤ 3; decide)).mono (by decide) (by decide)
          · exact (Oq.lst (n := 3) pair (by show 2 ≤ 3; decide)).mono (by decide) (by decide)
          · refine (Oq.tup (n := 3) (dp := 1) (wt := 9090) (fun d hd => ?_) (by show 3 ≤ 3; decide)).mono (by decide) (by decide)
            rcases List.mem_append.mp hd with hd | hd
            · exact pair d hd
            · rw [List.mem_singleton.mp hd]; exact O5
          · exact (Oq.tup (n := 3) (fun d hd => pair d (sub6.subset hd)) (Nat.le_trans sub6.length_le (by show 2 ≤ 3; decide))).mono (by decide) (by decide)
          · exact (Oq.tup (n := 1) (dp := 2) (wt := 27273) (fun d hd => by rw [List.mem_singleton.mp hd]; exact Oq.tup (n := 3) pair (by show 2 ≤ 3; decide)) (by show 1 ≤ 1; decide)).mono (by decide) (by decide)
          · exact (flat (fun d hd => (List.mem_append.mp hd).elim (lfx d) (lfy d)) (by rw [List.length_append, List.length_map, List.length_map]; omega)).mono (by decide) (by decide)
        refine ⟨p, l10, _, n + 3, rfl, P18.same r9, by omega, P18.ne n10, .inl (.inl upd_same), by show 0 < 9; decide, by show 9 < 1000000; decide, fun v H' f' P' mem => ?_⟩
        obtain ⟨d, qd, wd⟩ := fin v mem
        exact q v d H' (fr8.trans ((Fr.same (z9.trans (r18.trans r9))).trans f')) P' (.inl ⟨(qd.fr (FrX.same r9)).fr (FrX.of f' np), wd⟩)
end
end C2

namespace C2
set_option Elab.async false
set_option linter.all false
set_option maxRecDepth 100000
set_option maxHeartbeats 1000000
open PySem PySem.Spec PyProof.Rows L2 HT
theorem tcons_run {te : TE} {ta : TA} {σ : L2.St} {H : Hp} {R : List V → Hp → Prop} (h : te σ H fun v H1 => ta σ H1 fun vs H2 => R (v :: vs) H2) : tCons te ta σ H R := h
theorem TF.more {E : Addr → Prop} {H : Hp} {l : Addr} {v : V} {d : PyData} (h : TF E H v d) (nl : H l = none) : TF (fun a => E a ∨ a = l) H v d := by
  rcases h with ⟨h, o⟩ | ⟨e, a, ea, h, n⟩
  · exact .inl ⟨h.more nl, o⟩
  · exact .inr ⟨e, a, ea, h, fun z => z.elim n (ne_of_none h nl)⟩
theorem TF.less {E F : Addr → Prop} {H : Hp} {v : V} {d : PyData} (h : TF E H v d) (f : ∀ a, F a → E a) : TF F H v d := by
  rcases h with ⟨h, o⟩ | ⟨e, a, ea, h, n⟩
  · exact .inl ⟨h.less f, o⟩
  · exact .inr ⟨e, a, ea, h, fun z => n (f _ z)⟩
/-- things, an empty dict among them perhaps -/
def Tfs (N : Addr → Prop) (G : Hp) (vs : List V) : Prop := ∀ v ∈ vs, ∃ d, TF N G v d
theorem Tfs.fr {N : Addr → Prop} {G G' : Hp} {vs : List V} (h : Tfs N G vs) (f : FrX N G G') : Tfs N G' vs := fun v hv => by
  obtain ⟨d, x⟩ := h v hv
  exact ⟨d, x.fr f⟩
theorem Tfs.nil {N : Addr → Prop} {G : Hp} : Tfs N G [] := fun v hv => nomatch hv
theorem Tfs.cons {N : Addr → Prop} {G : Hp} {v : V} {vs : List V} {d : PyData} (h : TF N G v d) (t : Tfs N G vs) : Tfs N G (v :: vs) := fun x hx => by
  rcases List.mem_cons.mp hx with rfl | hx
  · exact ⟨d, h⟩
  · exact t x hx
theorem Tfs.app {N : Addr → Prop} {G : Hp} {vs ws : List V} (h : Tfs N G vs) (t : Tfs N G ws) : Tfs N G (vs ++ ws) := fun x hx => (List.mem_append.mp hx).elim (h x) (t x)
theorem Tfs.more {E : Addr → Prop} {H : Hp} {l : Addr} {vs : List V} (h : Tfs E H vs) (nl : H l = none) : Tfs (fun a => E a ∨ a = l) H vs := fun v hv => by
  obtain ⟨d, x⟩ := h v hv
  exact ⟨d, x.more nl⟩
theorem Tfs.less {E F : Addr → Prop} {H : Hp} {vs : List V} (h : Tfs E H vs) (f : ∀ a, F a → E a) : Tfs F H vs := fun v hv => by
  obtain ⟨d, x⟩ := h v hv
  exact ⟨d, x.less f⟩
theorem LstN.more {N : Addr → Prop} {G : Hp} {l : Addr} {zs : List V} (h : LstN N G) (e : G l = some (.lst zs)) : LstN (fun a => N a ∨ a = l) G := fun x hx => hx.elim (h x) fun z => ⟨zs, z ▸ e⟩
theorem lstOne {p : Addr} {G : Hp} {n : Nat} (h : PotAt G p n) : LstN (· = p) G := fun x hx => by
  obtain ⟨g, c, u, z, _⟩ := h
  exact ⟨_, hx ▸ z⟩
theorem bl_repr {G : Hp} {Q : VK} {B : Bool} (q : Q (.str (PyData.bool B).shown) G) : rReprQ [.bl B] G Q :=
  TF.repr (E := fun _ => False) (d := .bool B) (.inl ⟨.bl B, (oq_bl B).mono (by decide) (by decide)⟩) q
theorem two_strs (B : Bool) : SeqAt.shaped (.list [.str (PyData.bool B).shown, .str (PyData.bool B).shown]) = true ∧ PyData.eqv (.list [.str (PyData.bool B).shown, .str (PyData.bool B).shown]) (.list [.str (PyData.bool B).shown, .str (PyData.bool B).shown]) = true := by
  cases B <;> exact ⟨by decide +kernel, by decide +kernel⟩
section
variable {K : PySem.W.Frag} {E : Addr → Prop} {G : Hp} {Q : VK}
theorem rep_ok {l : Addr} {v : V} {d : PyData} {k : Nat} (out : ∀ c, G c = none → ¬ E c) (h : G l = some (.tup [v])) (nl : ¬ E l) (hd : Dq E G v d) (few : k ≤ 1000) (q : ∀ c G', Same G G' → TupD E G' c (List.replicate k d) → Q (.ref c) G') : rRep1 K (.ref l) (.int (k : Int)) G Q := by
  refine ⟨l, k, v, rfl, rfl, .inl (.inl h), few, fun e => ?_, fun _ c nc => ?_⟩
  · subst e
    exact q l G (Same.refl _) ⟨_, h, nl, .cons hd .nil⟩
  · have s := same_upd (o := .tup (List.replicate k v)) nc
    refine q c _ s ⟨_, upd_same, out c nc, ?_⟩
    have all : ∀ m : Nat, DqAll E (upd G c (.tup (List.replicate k v))) (List.replicate m v) (List.replicate m d) := fun m => by
      induction m with
      | zero => exact .nil
      | succ m ih => exact .cons (hd.fr (FrX.same s)) ih
    exact all k
/-- ((x,) * b, (y,) * a) -/
theorem pr_ok {e1 e2 : TE} {σ : L2.St} {a b : Nat} {x y : Int} (lN : LstN E G) (h3 : σ[3]? = some (some (.int (a : Int)))) (h4 : σ[4]? = some (some (.int (b : Int)))) (he1 : ∀ (G : Hp) (R : VK), R (.int x) G → e1 σ G R) (he2 : ∀ (G : Hp) (R : VK), R (.int y) G → e2 σ G R)
    (x0 : 0 ≤ x ∧ x ≤ 41) (y0 : 0 ≤ y ∧ y ≤ 41) (ha : a ≤ 40) (hb : b ≤ 40) (q : ∀ c d G', Same G G' → TF E G' (.ref c) d → Q (.ref c) G') :
    tTup (tCons (tOp (rRep1 K) (tTup (tCons e1 tNil)) (tVar 4)) (tCons (tOp (rRep1 K) (tTup (tCons e2 tNil)) (tVar 3)) tNil)) σ G Q := by
  refine he1 G _ ⟨by show 1 ≤ sizeLine; decide, fun u1 n1 => ⟨.int (b : Int), h4, ?_⟩⟩
  have s1 := same_upd (o := .tup [.int x]) n1
  refine rep_ok (d := .int x) (lN.same s1).out upd_same (lN.out u1 n1) (.int x) (by omega) fun c1 G1 s2 D1 => ?_
  have s12 := s1.trans s2
  refine he2 G1 _ ⟨by show 1 ≤ sizeLine; decide, fun u2 n2 => ⟨.int (a : Int), h3, ?_⟩⟩
  have s3 := same_upd (o := .tup [.int y]) n2
  refine rep_ok (d := .int y) ((lN.same s12).same s3).out upd_same ((lN.same s12).out u2 n2) (.int y) (by omega) fun c2 G2 s4 D2 => ?_
  have s14 := s12.trans (s3.trans s4)
  refine ⟨by show 2 ≤ sizeLine; decide, fun c nc => ?_⟩
  have s5 := same_upd (o := .tup [.ref c1, .ref c2]) nc
  have o1 : Oq (.tuple (List.replicate b (.int x))) 1 9090 := Oq.tup (n := 90) (dp := 0) (wt := 100) (fun d hd => by rw [(List.mem_replicate.mp hd).2]; exact oq_int x0.1 (by omega)) (by rw [List.length_replicate]; omega)
  have o2 : Oq (.tuple (List.replicate a (.int y))) 1 9090 := Oq.tup (n := 90) (dp := 0) (wt := 100) (fun d hd => by rw [(List.mem_replicate.mp hd).2]; exact oq_int y0.1 (by omega)) (by rw [List.length_replicate]; omega)
  refine q c (.tuple [.tuple (List.replicate b (.int x)), .tuple (List.replicate a (.int y))]) _ (s14.trans s5) (.inl ⟨.tup upd_same ((lN.same s14).out c nc) (.cons (D1.dq.fr (FrX.same (s3.trans (s4.trans s5)))) (.cons (D2.dq.fr (FrX.same s5)) .nil)), ?_⟩)
  exact (Oq.tup (n := 3) (dp := 1) (wt := 9090) (fun d hd => by
    rcases List.mem_cons.mp hd with rfl | hd
    · exact o1
    · rw [List.mem_singleton.mp hd]; exact o2) (by show 2 ≤ 3; decide)).mono (by decide) (by decide)
end
/-- repr by what it shows -/
def rReprW : List V → Hp → VK → Prop := fun xs G Q => ∃ S : Str, (∀ R : VK, R (.str S) G → rReprQ xs G R) ∧ Q (.str S) G
theorem call_reprW {X : Cx} (room : X.A.units + 64 < cLine) (hgd : X.A.guards = some []) : CallR X (.builtin "repr") rReprW := by
  intro pins s σ G xs us R I r h
  obtain ⟨S, f, q⟩ := h
  exact call_reprQ room hgd pins s σ G xs us R I r (f R q)
/-! ### a call by names alone -/
section
variable {X : Cx} {k : Nat} {f : Addr} {fd : FuncData} {ps ks : List Str} {sp : Sp} {E : XK} {x : Str} {p pos : Pos} {kws : List Keyword} {tk : TA} {g : List Value → List Value → List Value} {gV : List V → List V → List V}
theorem pe_callKW (G : FnOk X.prog X.w X.K X.mg X.base CX0 k f fd ps sp) (room : Room k X.A) (glob : Gl X x) (at_ : X.mg x = some (.ref f)) (kept : PySem.W.keepIn X.K (.ref f) = true) (binds : KBinds X.K fd ps ks g gV) (pass : Passes CX0 X E) (named : PK X kws tk)
    (each : (backToKw pos (keywordEach kws X.env)).all (·.1.isSome) = true := by rfl) (names : (backToKw pos (keywordEach kws X.env)).filterMap (·.1) = ks := by rfl) (plainName : (x == ("__debug__" : Str)) = false := by decide)
    (plain : ((backTo pos (starEach [] X.env)).any (·.1) || (backToKw pos (keywordEach kws X.env)).any (·.1.isNone)) = false := by rfl) : PE X (.Call (.Name x p) [] kws pos) (tCallK sp gV E tNil tk) := by
  constructor
  intro pins s σ H Q I h
  have args := named.run pos pins s σ H _ I h
  refine wpAny_Call_Name_kw (ld_glob I glob at_ (PySem.W.callWith_KW0 (h₀ := X.base) I.ok.mod.kin kept each (thn args ?_) plain) plainName)
  rintro ws s2 ⟨zs, H2, I2, rz, q2⟩
  rw [names]
  exact ⟨I2.kIn, run_fnk (us := []) (vs := []) G room binds pass I2 .nil rz q2⟩
end
/-- three values by name, in the contrary order -/
def sw3 {α : Type} : List α → List α → List α
  | [], [a, b, c] => [c, b, a]
  | _, _ => []
theorem sw3_vals {vs zs : List V} {us ws : List Value} (r : Vals vs us) (rz : Vals zs ws) : Vals (sw3 vs zs) (sw3 us ws) := by
  cases r with
  | cons _ _ => exact .nil
  | nil => cases rz with
    | nil => exact .nil
    | cons r1 r2 => cases r2 with
      | nil => exact .nil
      | cons r3 r4 => cases r4 with
        | nil => exact .nil
        | cons r5 r6 => cases r6 with
          | nil => exact .cons r5 (.cons r3 (.cons r1 .nil))
          | cons _ _ => exact .nil
section
variable {K : PySem.W.Frag}
theorem kb_ispick {f : Addr} {fd : FuncData} (F : Fun K "is_pick" "is_pick" sIsPick f fd) : KBinds K fd ["a", "b", "thing"] ["thing", "b", "a"] sw3 sw3 := by
  obtain ⟨v1, v2, v3, v4, v5, v6, v7, v8, v9, rfl, _, _⟩ := F.ex
  refine ⟨fun s us ws _ hl => ?_, fun r rz => sw3_vals r rz⟩
  match us, ws, hl with
  | [], [a, b, c], _ => exact .of_eq rfl
  | [], [], hl => cases hl
  | [], [_], hl => cases hl
  | [], [_, _], hl => cases hl
  | [], _ :: _ :: _ :: _ :: _, hl => cases hl
  | _ :: _, _, hl => cases hl
end
end C2

namespace C2
set_option Elab.async false
set_option linter.all false
set_option maxRecDepth 100000
set_option maxHeartbeats 1000000
open PySem PySem.Spec PyProof.Rows L2 HT
theorem freshSeq {K : PySem.W.Frag} {p a : Addr} {G G' : Hp} {xs : List V} (h : SqL K G a xs) (n : G p = none) (f : Fr p G G') : SqL K G' a xs := by
  rcases h with (h | ⟨o, h⟩) | h
  · exact .inl (.inl (f _ _ (ne_of_none h n) h))
  · exact .inl (.inr ⟨o, f _ _ (ne_of_none h n) h⟩)
  · exact .inr h
theorem PotAt.frL {G G' : Hp} {p l : Addr} {n : Nat} (h : PotAt G p n) (f : Fr l G G') (ne : p ≠ l) : PotAt G' p n := by
  obtain ⟨g, c, u, e, r⟩ := h
  exact ⟨g, c, u, f _ _ ne e, r⟩
theorem PickAt.updL {G : Hp} {t l : Addr} {a b : Nat} {xs ys : List Int} {zs : List V} {o : HO} (h : PickAt G t a b xs ys) (e : G l = some (.lst zs)) : PickAt (L2.upd G l o) t a b xs ys := by
  obtain ⟨tx, ty, k1, k2, k3, r⟩ := h
  have ne : ∀ {x : Addr} {us : List V}, G x = some (.tup us) → (L2.upd G l o) x = some (.tup us) := fun {x us} z => by
    rw [upd_ne (fun y => by rw [y, e] at z; cases z)]
    exact z
  exact ⟨tx, ty, ne k1, ne k2, ne k3, r⟩
section
variable {P : Program} {w : World} {K : PySem.W.Frag} {mg : Str → Option Value} {base : Heap}
abbrev NLw : List Str := ["_law_script", "_law_k", "_law_pot_here", "_law_wide", "_law_high", "_law_pick_here", "_law_things", "_law_what", "_law_kept", "_law_due", "_law_found", "_law_turn"]
theorem scLaw : FnScope NLw ["_law_script"] (defScope sLaw) := ⟨rfl, rfl, rfl, by decide +kernel, rfl, by decide +kernel, by decide +kernel⟩
def spLaw (K : PySem.W.Frag) : Sp := fun vs H Q _ => ∃ (a : Addr) (ns : List Int), vs = [.ref a] ∧ SqL K H a (ns.map V.int) ∧ ns.length ≤ 63 ∧ ∀ H', Q (.bl true) H'
def teBe : TE := tCall spBent [] E0 (tCons (tVar 2) (tCons (tVar 3) (tCons (tVar 4) (tCons (tVar 5) tNil))))
/-- fifteen bent ones -/
theorem bents_ok {σ : L2.St} {G : Hp} {Q : VK} {p t : Addr} {a b n : Nat} {xs ys : List Int} {N : Addr → Prop} (h2 : ∀ v : V, ((wipe σ [11]).set 11 (some v))[2]? = some (some (.ref p))) (h3 : ∀ v : V, ((wipe σ [11]).set 11 (some v))[3]? = some (some (.int (a : Int)))) (h4 : ∀ v : V, ((wipe σ [11]).set 11 (some v))[4]? = some (some (.int (b : Int)))) (h5 : ∀ v : V, ((wipe σ [11]).set 11 (some v))[5]? = some (some (.ref t)))
    (hw : ∀ v, wipe ((wipe σ [11]).set 11 (some v)) [11] = wipe σ [11]) (ha : a ≤ 40) (hb : b ≤ 40) (hP : PotAt G p n) (hn : n < 800000) (pk : PickAt G t a b xs ys) (np : N p) (lN : LstN N G)
    (q : ∀ D G' bs, Fr p G G' → PotAt G' p (n + 60) → G D = none → G' D = some (.lst bs) → Tfs N G' bs → bs.length ≤ 15 → Q (.ref D) G') : tLc (iRng1 (tCons (tC (V.int 15)) tNil)) (gName 11) tYes teBe [11] σ G Q := by
  refine ⟨15, rfl, by decide, by decide, fun D nD => ?_⟩
  have nDp : D ≠ p := hP.ne nD
  refine lc_range (lo := 0) (n := 15) (fun j G' => Fr p G G' ∧ PotAt G' p (n + 4 * j) ∧ ∃ bs, G' D = some (.lst bs) ∧ Tfs (fun x => N x ∨ x = D) G' bs ∧ bs.length = j) ⟨Fr.new nD, hP.new nD, [], upd_same, .nil, rfl⟩ ?_ ?_
  · rintro j G' hj ⟨fr, pt, bs, hD, tf, lb⟩
    rw [Int.zero_add]
    refine ⟨hw _, ?_⟩
    simp only [tYes, ↓reduceIte]
    have pk' : PickAt G' t a b xs ys := by
      obtain ⟨tx, ty, k1, k2, k3, r⟩ := pk
      have ne : ∀ {x : Addr} {l : List V}, G x = some (.tup l) → x ≠ p := fun z y => by
        obtain ⟨_, _, _, e, _⟩ := hP
        rw [y, e] at z; cases z
      exact ⟨tx, ty, fr _ _ (ne k1) k1, fr _ _ (ne k2) k2, fr _ _ (ne k3) k3, r⟩
    have lN' : LstN (fun x => N x ∨ x = D) G' := (lN.fr fr pt).more hD
    refine ⟨.ref p, h2 _, .int (a : Int), h3 _, .int (b : Int), h4 _, .ref t, h5 _, p, t, a, b, n + 4 * j, xs, ys, _, rfl, ha, hb, pt, by omega, pk', .inl np, lN', fun v d H' f' P' tv => ?_⟩
    have hD' := f' _ _ nDp hD
    refine ⟨_, hD', Nat.lt_of_lt_of_le (show bs.length < 1000 by omega) (by decide), ?_, P'.at nDp, bs ++ [v], upd_same, ?_, by rw [List.length_append, List.length_singleton, lb]⟩
    · intro b' o nb e
      rw [upd_ne (ne_of_none e nD)]
      exact f' _ _ nb (fr _ _ nb e)
    · have fu : FrX (fun x => N x ∨ x = D) H' (upd H' D (.lst (bs ++ [v]))) := fun b' o' nb hb' => by
        rw [upd_ne (fun z => nb (.inr z))]
        exact hb'
      exact ((tf.fr (FrX.of f' (.inl np))).fr fu).app (.cons (tv.fr fu) .nil)
  · rintro G' ⟨fr, pt, bs, hD, tf, lb⟩
    exact q D G' bs fr pt nD hD (tf.less fun x h => .inl h) (by omega)
theorem ok_law {f fPo fT fO fPk fS fBe fJ fA fI fN fW fB fU : Addr} {fd fdPo fdT fdO fdPk fdS fdBe fdJ fdA fdI fdN fdW fdB fdU : FuncData} (F : Fun K "law" "law" sLaw f fd) (FPo : Fun K "_law_pot" "_law_pot" sDraws fPo fdPo) (FT : Fun K "_law_take" "_law_take" sTake fT fdT) (FO : Fun K "_law_of" "_law_of" sOf fO fdO) (FPk : Fun K "_law_pick" "_law_pick" sPick fPk fdPk) (FS : Fun K "_law_size" "_law_size" sSize fS fdS) (FBe : Fun K "_law_bent" "_law_bent" sBent fBe fdBe) (FJ : Fun K "_law_is_pick" "_law_is_pick" sLIsPick fJ fdJ) (FA : Fun K "_law_are" "_law_are" sAre fA fdA) (FI : Fun K "is_pick" "is_pick" sIsPick fI fdI) (FN : Fun K "is_numbers" "is_numbers" sNumbers fN fdN) (FW : Fun K "is_whole" "is_whole" sPWhole fW fdW) (FB : Fun K "is_between" "is_between" sBetween fB fdB) (FU : Fun K "is_tuple_of" "is_tuple_of" sTupOf fU fdU)
    (bPo : Binds K fdPo ["_law_script", "_law_k"] []) (bT : Binds K fdT ["_law_pot_here", "_law_many"] []) (bO : Binds K fdO ["_law_pot_here", "_law_some"] []) (bPk : Binds K fdPk ["_law_pot_here", "_law_wide", "_law_high"] []) (bS : Binds K fdS ["_law_pot_here", "_law_most"] []) (bBe : Binds K fdBe ["_law_pot_here", "_law_wide", "_law_high", "_law_pick_here"] []) (bJ : Binds K fdJ ["_law_wide", "_law_high", "_law_what"] []) (bA : Binds K fdA ["_law_what", "_law_many", "_law_most"] []) (bI : Binds K fdI ["a", "b", "thing"] []) (bN : Binds K fdN ["thing", "many", "most"] []) (bW : Binds K fdW ["thing"] []) (bB : Binds K fdB ["thing", "least", "most"] []) (bU : Binds K fdU ["thing", "many"] [])
    (gPo : mg "_law_pot" = some (.ref fPo)) (gT : mg "_law_take" = some (.ref fT)) (gO : mg "_law_of" = some (.ref fO)) (gPk : mg "_law_pick" = some (.ref fPk)) (gS : mg "_law_size" = some (.ref fS)) (gBe : mg "_law_bent" = some (.ref fBe)) (gJ : mg "_law_is_pick" = some (.ref fJ)) (gA : mg "_law_are" = some (.ref fA)) (gI : mg "is_pick" = some (.ref fI)) (gN : mg "is_numbers" = some (.ref fN)) (gW : mg "is_whole" = some (.ref fW)) (gB : mg "is_between" = some (.ref fB)) (gU : mg "is_tuple_of" = some (.ref fU))
    (mi : mg "isinstance" = none) (mint : mg "int" = none) (mbool : mg "bool" = none) (mtup : mg "tuple" = none) (ml : mg "len" = none) (mall : mg "all" = none) (mr : mg "range" = none) (mmin : mg "min" = none) (mmax : mg "max" = none) (mrep : mg "repr" = none) (ma : mg "abs" = none) (ms : mg "sorted" = none) (mlist : mg "list" = none) :
    FnG P w K mg base 5 f fd ["_law_script"] (spLaw K) := by
  have GPo : FnOk P w K mg base CX0 1 fPo fdPo ["_law_script", "_law_k"] (spDraws K) := ok_draws FPo ml ma
  have GT : FnOk P w K mg base CX0 1 fT fdT ["_law_pot_here", "_law_many"] spTake := ok_take FT
  have GPk : FnOk P w K mg base CX0 2 fPk fdPk ["_law_pot_here", "_law_wide", "_law_high"] spPick := ok_pick FPk FT bT gT mr mtup ms ml
  have GS : FnOk P w K mg base CX0 2 fS fdS ["_law_pot_here", "_law_most"] spSize := ok_size FS FT bT gT
  have GBe : FnOk P w K mg base CX0 3 fBe fdBe ["_law_pot_here", "_law_wide", "_law_high", "_law_pick_here"] spBent := ok_bent FBe FO FT bO bT gO gT ml mlist
  have GJ : FnOk P w K mg base CX0 2 fJ fdJ ["_law_wide", "_law_high", "_law_what"] spIsPick := ok_lispick FJ FA bA gA mi mint mbool mtup ml mall
  have GI : FnOk P w K mg base CX0 4 fI fdI ["a", "b", "thing"] spIsPick := ok_ispick FI FN FW FB FU bN bW bB bU gN gW gB gU mi mint mbool mtup ml mall
  have kI := kb_ispick FI
  refine okG F scLaw (fun vs H Q E h => ?_) (fun cdv A outer s H vs Q E hgd hr h => ?_)
  · obtain ⟨a, ns, rfl, _⟩ := h
    rfl
  · obtain ⟨z, ns, rfl, hS, hlen, q⟩ := h
    have nd := scLaw.nd
    refine ⟨_, pss_cons (ps_for PassesOwn.never rfl (pi_range1 (by rfl) mr (pa_cons (pe_callB (call_max2 rfl) (by rfl) mmax (by decide +kernel) (pa_cons pe_int (pa_cons (pe_callB (call_min2 rfl) (by rfl) mmin (by decide +kernel) (pa_cons pe_int (pa_cons (pe_callB call_len_seq (by rfl) ml PySem.boot_len (pa_cons (pv 0) pa_nil)) pa_nil))) pa_nil))) pa_nil)) (pg_name (i := 1) nd rfl (.inl rfl)) (pss_cons (ps_set (i := 2) nd rfl (.inr rfl) (pe_call GPo (hr.mono (by decide)) (by rfl) gPo FPo.kp bPo .nil pass0 (pa_cons (pv 0) (pa_cons (pv 1) pa_nil))))
      (pss_cons (ps_asg (pe_ifExp (pt_cmpR op_gt (pe_call GT (hr.mono (by decide)) (by rfl) gT FT.kp bT .nil pass0 (pa_cons (pv 2) (pa_cons pe_int pa_nil))) pe_int (nomark _)) (pe_call GS (hr.mono (by decide)) (by rfl) gS FS.kp bS .nil pass0 (pa_cons (pv 2) (pa_cons pe_int pa_nil))) (pe_tup (pa_cons pe_int (pa_cons pe_int pa_nil)))) (pg_tup rfl (pgs_cons (pg_name (i := 3) nd rfl (.inr rfl)) (pgs_cons (pg_name (i := 4) nd rfl (.inr rfl)) pgs_nil))))
      (pss_cons (ps_set (i := 5) nd rfl (.inr rfl) (pe_call GPk (hr.mono (by decide)) (by rfl) gPk FPk.kp bPk .nil pass0 (pa_cons (pv 2) (pa_cons (pv 3) (pa_cons (pv 4) pa_nil)))))
      (pss_cons (ps_set (i := 6) nd rfl (.inl rfl) (pe_lst (pa_cons (pv 5) (pa_cons (pe_tup (pa_cons (pe_op op_rep1 (pe_tup (pa_cons (pv 3) pa_nil)) (pv 4)) (pa_cons (pe_op op_rep1 (pe_tup (pa_cons (pv 4) pa_nil)) (pv 3)) pa_nil))) (pa_cons (pe_tup (pa_cons (pe_op op_rep1 (pe_tup (pa_cons pe_int pa_nil)) (pv 4)) (pa_cons (pe_op op_rep1 (pe_tup (pa_cons pe_int pa_nil)) (pv 3)) pa_nil))) pa_nil)))))
      (pss_cons (ps_expr (pe_bm PySem.F.plainAttrs_list PySem.F.slot_list_append PySem.F.type_list_append mt_append (pv 6) (pa_cons (pe_tup (pa_cons (pe_op op_rep1 (pe_tup (pa_cons (pe_op op_add (pv 3) pe_int) pa_nil)) (pv 4)) (pa_cons (pe_op op_rep1 (pe_tup (pa_cons (pv 4) pa_nil)) (pv 3)) pa_nil))) pa_nil)))
      (pss_cons (ps_expr (pe_bm PySem.F.plainAttrs_list PySem.F.slot_list_append PySem.F.type_list_append mt_append (pv 6) (pa_cons (pe_tup (pa_cons (pe_op op_rep1 (pe_tup (pa_cons (pv 3) pa_nil)) (pv 4)) (pa_cons (pe_op op_rep1 (pe_tup (pa_cons (pe_op op_add (pv 4) pe_int) pa_nil)) (pv 3)) pa_nil))) pa_nil)))
      (pss_cons (ps_set (i := 6) nd rfl (.inl rfl) (pe_op op_cat (pv 6) (pe_lst (pa_cons pe_non (pa_cons pe_bl (pa_cons pe_int (pa_cons pe_str (pa_cons (pe_tup pa_nil) (pa_cons (pe_lst pa_nil) (pa_cons pe_dnewK (pa_cons (pe_tup (pa_cons (pe_tup pa_nil) (pa_cons (pe_tup pa_nil) pa_nil))) (pa_cons (pe_tup (pa_cons (pe_tup pa_nil) pa_nil)) (pa_cons (pe_tup (pa_cons pe_non (pa_cons pe_non pa_nil))) pa_nil)))))))))))))
      (pss_cons (ps_expr (pe_bm PySem.F.plainAttrs_list PySem.F.slot_list_extend PySem.F.type_list_extend mt_extend (pv 6) (pa_cons (pe_lc (own := [("_law_turn", 11)]) (g := gName 11) (tt := tYes) (te := teBe) rfl nd (pi_range1 (by rfl) mr (pa_cons pe_int pa_nil)) (blkOk_by (own := [("_law_turn", 11)]) (N := NLw) (sc := defScope sLaw) (by decide +kernel)) (fun _ _ _ _ _ => pg_name (i := 11) nd rfl (.inl rfl)) (fun _ _ _ _ _ => pts_nil) (fun _ _ _ _ _ => (pe_call GBe (hr.mono (by decide)) (by rfl) gBe FBe.kp bBe .nil pass0 (pa_cons (pv 2) (pa_cons (pv 3) (pa_cons (pv 4) (pa_cons (pv 5) pa_nil))))))) pa_nil)))
      (pss_one (ps_for PassesOwn.never rfl (pi_list (pv 6)) (pg_name (i := 7) nd rfl (.inl rfl)) (pss_cons (ps_par (i := 8) (j := 9) rfl nd rfl rfl (by decide) rfl rfl (pa_cons (pe_callB (call_reprW hr.units hgd) (by rfl) mrep (by decide +kernel) (pa_cons (pv 7) pa_nil)) (pa_cons (pe_callB (call_reprW hr.units hgd) (by rfl) mrep (by decide +kernel) (pa_cons (pe_call GJ (hr.mono (by decide)) (by rfl) gJ FJ.kp bJ .nil pass0 (pa_cons (pv 3) (pa_cons (pv 4) (pa_cons (pv 7) pa_nil)))) pa_nil)) pa_nil)) rfl)
      (pss_cons (ps_set (i := 10) nd rfl (.inl rfl) (pe_lst (pa_cons (pe_callB (call_reprW hr.units hgd) (by rfl) mrep (by decide +kernel) (pa_cons (pe_call GI (hr.mono (by decide)) (by rfl) gI FI.kp bI .nil pass0 (pa_cons (pv 3) (pa_cons (pv 4) (pa_cons (pv 7) pa_nil)))) pa_nil)) (pa_cons (pe_callB (call_reprW hr.units hgd) (by rfl) mrep (by decide +kernel) (pa_cons (pe_callKW GI (hr.mono (by decide)) (by rfl) gI FI.kp kI pass0 (pk_cons (pv 7) (pk_cons (pv 4) (pk_cons (pv 3) pk_nil)))) pa_nil)) pa_nil))))
      (pss_one (ps_if (PW.pt (pw_or (pt_cmpR (op_neD hr.units) (pv 10) (pe_lst (pa_cons (pv 9) (pa_cons (pv 9) pa_nil))) (nomark _)) (pw_or1 (pt_cmpR op_ne (pe_callB (call_reprW hr.units hgd) (by rfl) mrep (by decide +kernel) (pa_cons (pv 7) pa_nil)) (pv 8) (nomark _))))) (pss_one (ps_ret pe_bl)) pss_nil)))))))))))))))
      (pss_one (ps_ret pe_bl)), ?_⟩
    refine ⟨.ref z, rfl, z, _, rfl, .inl hS, 3, _, rfl, 1, _, rfl, _, rfl, ?_, ?_, ?_⟩
    · split <;> split <;> omega
    · rw [List.length_map]
      split <;> split <;> omega
    · refine for_range (lo := 0) (n := _) (fun i σ G => SqL K G z (ns.map V.int) ∧ ∃ y1 y2 y3 y4 y5 y6 y7 y8 y9 y10 y11, σ = [some (.ref z), y1, y2, y3, y4, y5, y6, y7, y8, y9, y10, y11]) ⟨hS, _, _, _, _, _, _, _, _, _, _, _, rfl⟩ ?_ ?_
      · rintro i σ G hi ⟨hSG, y1, y2, y3, y4, y5, y6, y7, y8, y9, y10, y11, rfl⟩
        have hi3 : i < 3 := by
          rw [List.length_map] at hi
          revert hi
          split <;> split <;> omega
        rw [Int.zero_add]
        refine ⟨.ref z, rfl, .int (i : Int), rfl, z, ns, i, rfl, hSG, by omega, fun H1 p sm1 np hP1 => ?_⟩
        refine ⟨.ref p, rfl, p, 7, 0, rfl, hP1, by decide, by decide, by decide, fun d H2 f2 P2 d0 d1 => ⟨_, _, rfl, rfl, _, rfl, ?_⟩⟩
        have fr2 : Fr p G H2 := (Fr.same sm1).trans f2
        refine both_of (fun x H' => ∃ (a b : Nat) (u : Addr), x = .ref u ∧ a ≤ 40 ∧ b ≤ 40 ∧ Fr p G H' ∧ PotAt H' p 10 ∧ H' u = some (.tup [.int (a : Int), .int (b : Int)])) ?_ (fun hk e => ?_) (fun hk e => ?_)
        rotate_left
        · exact ⟨.ref p, rfl, p, 6, 1, rfl, by decide, by decide, P2, by decide, fun a b t H' ha hb f P ht => hk _ _ ⟨a, b, t, rfl, by omega, by omega, fr2.trans f, P.mono (by omega), ht⟩⟩
        · exact ⟨by show 2 ≤ sizeLine; decide, fun t nt => hk _ _ ⟨40, 3, t, rfl, by decide, by decide, fr2.trans (Fr.new nt), (P2.new nt).mono (by omega), upd_same⟩⟩
        · rintro x H3 ⟨a, b, u, rfl, ha, hb, fr3, P3, hu⟩
          refine ⟨u, _, rfl, .inl (.inl hu), rfl, _, _, rfl, _, _, rfl, rfl, ?_⟩
          refine ⟨.ref p, rfl, .int (a : Int), rfl, .int (b : Int), rfl, p, a, b, 10, rfl, ha, hb, P3, by decide, fun t xs ys H4 f4 P4 pk => ?_⟩
          have fr4 := fr3.trans f4
          show tSeq _ _ _ [some (.ref z), some (.int (i : Int)), some (.ref p), some (.int (a : Int)), some (.int (b : Int)), some (.ref t), y6, y7, y8, y9, y10, y11] _
          have l4 := lstOne P4
          obtain ⟨tx, ty, k1, k2, k3, l1, l2, u1, u2⟩ := id pk
          have tfp : TF (· = p) H4 (.ref t) (.tuple [.tuple (xs.map PyData.int), .tuple (ys.map PyData.int)]) := by
            refine .inl ⟨.tup k1 (l4.tup k1) (.cons (tupI k2 (l4.tup k2)).dq (.cons (tupI k3 (l4.tup k3)).dq .nil)), ?_⟩
            refine (Oq.tup (n := 3) (dp := 1) (wt := 9090) (fun d hd => ?_) (by show 2 ≤ 3; decide)).mono (by decide) (by decide)
            rcases List.mem_cons.mp hd with rfl | hd
            · exact Oq.tup (n := 90) (oq_ints (by omega) u1) (by rw [List.length_map]; omega)
            · rw [List.mem_singleton.mp hd]
              exact Oq.tup (n := 90) (oq_ints (by omega) u2) (by rw [List.length_map]; omega)
          refine ⟨.ref t, rfl, ?_⟩
          refine tcons_run (pr_ok (a := a) (b := b) (x := (a : Int)) (y := (b : Int)) l4 rfl rfl (fun G R h => ⟨_, rfl, h⟩) (fun G R h => ⟨_, rfl, h⟩) (by omega) (by omega) ha hb fun c1 e1 G1 s1 T1 => ?_)
          refine tcons_run (pr_ok (a := a) (b := b) (x := 0) (y := 0) (l4.same s1) rfl rfl (fun G R h => h) (fun G R h => h) (by decide) (by decide) ha hb fun c2 e2 G2 s2 T2 => ?_)
          refine ⟨by show 3 ≤ sizeLine; decide, fun l6 n6 => ?_⟩
          have s12 := s1.trans s2
          have m6 := same_upd (o := .lst [.ref t, .ref c1, .ref c2]) n6
          have b6 : Tfs (fun x => x = p ∨ x = l6) (upd G2 l6 (.lst [.ref t, .ref c1, .ref c2])) [.ref t, .ref c1, .ref c2] :=
            (Tfs.more (.cons (tfp.fr (FrX.same s12)) (.cons (T1.fr (FrX.same s2)) (.cons T2 .nil))) n6).fr (FrX.same m6)
          have P6 := (P4.same s12).same m6
          have L6 : LstN (fun x => x = p ∨ x = l6) (upd G2 l6 (.lst [.ref t, .ref c1, .ref c2])) := (lstOne P6).more upd_same
          have h6 := upd_same (H := G2) (a := l6) (o := .lst [.ref t, .ref c1, .ref c2])
          have n6p : l6 ≠ p := (P4.same s12).ne n6
          have f6 : Fr p G (upd G2 l6 (.lst [.ref t, .ref c1, .ref c2])) := fr4.trans (Fr.same (s12.trans m6))
          have g6 : G l6 = none := (fr4.trans (Fr.same s12)).free n6p n6
          have pk6 := (pk.same s12).same m6
          generalize upd G2 l6 (.lst [.ref t, .ref c1, .ref c2]) = G6 at b6 P6 L6 h6 f6 pk6
          have lv6 : [V.ref t, .ref c1, .ref c2].length = 3 := rfl
          generalize [V.ref t, .ref c1, .ref c2] = v6 at b6 h6 lv6
          have frU : ∀ {X : Hp} {o : HO}, FrX (fun x => x = p ∨ x = l6) X (upd X l6 o) := fun b' o' nb hb' => by
            rw [upd_ne (fun z => nb (.inr z))]
            exact hb'
          have frG : ∀ {X : Hp} {o : HO}, Fr p G X → Fr p G (upd X l6 o) := fun f b' o' nb hb' => by
            rw [upd_ne (ne_of_none hb' g6)]
            exact f _ _ nb hb'
          -- two more
          refine ⟨.ref l6, rfl, .inl ⟨rfl, _, .inl (.inl h6)⟩, ?_⟩
          refine tcons_run (pr_ok (a := a) (b := b) (x := (a : Int) + 1) (y := (b : Int)) L6 rfl rfl (fun G R h => ⟨_, rfl, _, _, rfl, rfl, h⟩) (fun G R h => ⟨_, rfl, h⟩) (by omega) (by omega) ha hb fun c3 e3 G3 s3 T3 => ?_)
          refine ⟨l6, v6, .ref c3, rfl, rfl, s3 _ _ h6, Nat.lt_of_lt_of_le (show v6.length < 1000 by omega) (by decide), ?_⟩
          have b7 := ((b6.fr (FrX.same s3)).fr (frU (o := .lst (v6 ++ [.ref c3])))).app (.cons (T3.fr frU) .nil)
          have P7 := (P6.same s3).at (o := .lst (v6 ++ [.ref c3])) n6p
          have h7 := upd_same (H := G3) (a := l6) (o := .lst (v6 ++ [.ref c3]))
          have L7 : LstN (fun x => x = p ∨ x = l6) (upd G3 l6 (.lst (v6 ++ [.ref c3]))) := (lstOne P7).more h7
          have f7 := frG (o := .lst (v6 ++ [.ref c3])) (f6.trans (Fr.same s3))
          have pk7 := (pk6.same s3).updL (o := .lst (v6 ++ [.ref c3])) (s3 _ _ h6)
          have lv7 : (v6 ++ [V.ref c3]).length = 4 := by rw [List.length_append, List.length_singleton, lv6]
          generalize upd G3 l6 (.lst (v6 ++ [.ref c3])) = G7 at b7 P7 L7 h7 f7 pk7
          generalize v6 ++ [V.ref c3] = v7 at b7 h7 lv7
          refine ⟨.ref l6, rfl, .inl ⟨rfl, _, .inl (.inl h7)⟩, ?_⟩
          refine tcons_run (pr_ok (a := a) (b := b) (x := (a : Int)) (y := (b : Int) + 1) L7 rfl rfl (fun G R h => ⟨_, rfl, h⟩) (fun G R h => ⟨_, rfl, _, _, rfl, rfl, h⟩) (by omega) (by omega) ha hb fun c4 e4 G4 s4 T4 => ?_)
          refine ⟨l6, v7, .ref c4, rfl, rfl, s4 _ _ h7, Nat.lt_of_lt_of_le (show v7.length < 1000 by omega) (by decide), ?_⟩
          have b8 := ((b7.fr (FrX.same s4)).fr (frU (o := .lst (v7 ++ [.ref c4])))).app (.cons (T4.fr frU) .nil)
          have P8 := (P7.same s4).at (o := .lst (v7 ++ [.ref c4])) n6p
          have h8 := upd_same (H := G4) (a := l6) (o := .lst (v7 ++ [.ref c4]))
          have f8 := frG (o := .lst (v7 ++ [.ref c4])) (f7.trans (Fr.same s4))
          have pk8 := (pk7.same s4).updL (o := .lst (v7 ++ [.ref c4])) (s4 _ _ h7)
          have lv8 : (v7 ++ [V.ref c4]).length = 5 := by rw [List.length_append, List.length_singleton, lv7]
          generalize upd G4 l6 (.lst (v7 ++ [.ref c4])) = G8 at b8 P8 h8 f8 pk8
          generalize v7 ++ [V.ref c4] = v8 at b8 h8 lv8
          have l8p := lstOne P8
          -- ten of other kinds
          refine ⟨.ref l6, rfl, by decide, fun q1 m1 => ⟨by decide, fun q2 m2 => fun q3 m3 => ⟨by decide, fun q4 m4 => ⟨by decide, fun q5 m5 => ⟨by show 2 ≤ sizeLine; decide, fun q6 m6 => ⟨by decide, fun q7 m7 => ⟨by show 1 ≤ sizeLine; decide, fun q8 m8 => ⟨by show 2 ≤ sizeLine; decide, fun q9 m9 => ⟨by show 10 ≤ sizeLine; decide, fun l7 n7 => ?_⟩⟩⟩⟩⟩⟩⟩⟩⟩
          have a1 := same_upd (o := .tup []) m1
          have a2 := same_upd (o := .lst []) m2
          have a3 := same_upd (o := .dK []) m3
          have a4 := same_upd (o := .tup []) m4
          have a5 := same_upd (o := .tup []) m5
          have a6 := same_upd (o := .tup [.ref q4, .ref q5]) m6
          have a7 := same_upd (o := .tup []) m7
          have a8 := same_upd (o := .tup [.ref q7]) m8
          have a9 := same_upd (o := .tup [.non, .non]) m9
          have a10 := same_upd (o := .lst [.non, .bl true, .int 0, .str "", .ref q1, .ref q2, .ref q3, .ref q6, .ref q8, .ref q9]) n7
          have c9 := a9.trans a10
          have c8 := a8.trans c9
          have c7 := a7.trans c8
          have c6 := a6.trans c7
          have c5 := a5.trans c6
          have c4' := a4.trans c5
          have c3' := a3.trans c4'
          have c2' := a2.trans c3'
          have c1' := a1.trans c2'
          have w1 := l8p.same a1
          have w2 := w1.same a2
          have w3 := w2.same a3
          have w4 := w3.same a4
          have w5 := w4.same a5
          have w6 := w5.same a6
          have w7 := w6.same a7
          have w8 := w7.same a8
          have w9 := w8.same a9
          have big : ∀ {d : PyData} {dp wt : Nat}, Oq d dp wt → dp ≤ 4 → wt ≤ 30000 → Oq d 4 30000 := fun h x y => h.mono x y
          have o0 : Oq (.tuple []) 1 0 := Oq.tup (dp := 0) (wt := 100) (n := 0) (fun d hd => nomatch hd) (by decide)
          have i1 := (TF.fr (E := (· = p)) (.inl ⟨.tup upd_same (l8p.out q1 m1) .nil, big o0 (by decide) (by decide)⟩) (FrX.same c2'))
          have i2 := (TF.fr (E := (· = p)) (.inl ⟨.lst upd_same (w1.out q2 m2) .nil, big (Oq.lst (dp := 0) (wt := 100) (n := 0) (fun d hd => nomatch hd) (by decide)) (by decide) (by decide)⟩) (FrX.same c3'))
          have i3 := (TF.fr (E := (· = p)) (.inr ⟨rfl, q3, rfl, upd_same, w2.out q3 m3⟩) (FrX.same c4'))
          have i6 := (TF.fr (E := (· = p)) (.inl ⟨.tup upd_same (w5.out q6 m6) (.cons (.tup (a6 _ _ (a5 _ _ upd_same)) (w3.out q4 m4) .nil) (.cons (.tup (a6 _ _ upd_same) (w4.out q5 m5) .nil) .nil)), big (Oq.tup (n := 2) (dp := 1) (wt := 0) (fun d hd => by
            rcases List.mem_cons.mp hd with rfl | hd
            · exact o0
            · rw [List.mem_singleton.mp hd]; exact o0) (by decide)) (by decide) (by decide)⟩) (FrX.same c7))
          have i8 := (TF.fr (E := (· = p)) (.inl ⟨.tup upd_same (w7.out q8 m8) (.cons (.tup (a8 _ _ upd_same) (w6.out q7 m7) .nil) .nil), big (Oq.tup (n := 1) (dp := 1) (wt := 0) (fun d hd => by rw [List.mem_singleton.mp hd]; exact o0) (by decide)) (by decide) (by decide)⟩) (FrX.same c9))
          have i9 := (TF.fr (E := (· = p)) (.inl ⟨.tup upd_same (w8.out q9 m9) (.cons .non (.cons .non .nil)), big (Oq.tup (n := 2) (dp := 0) (wt := 100) (fun d hd => by
            rcases List.mem_cons.mp hd with rfl | hd
            · exact oq_non
            · rw [List.mem_singleton.mp hd]; exact oq_non) (by decide)) (by decide) (by decide)⟩) (FrX.same a10))
          have ten : Tfs (· = p) _ _ := .cons (.inl ⟨.non, big oq_non (by decide) (by decide)⟩) (.cons (.inl ⟨.bl true, big (oq_bl true) (by decide) (by decide)⟩) (.cons (.inl ⟨.int 0, big (oq_int (v := 0) (by decide) (by decide)) (by decide) (by decide)⟩) (.cons (.inl ⟨.str "", big oq_void (by decide) (by decide)⟩) (.cons i1 (.cons i2 (.cons i3 (.cons i6 (.cons i8 (.cons i9 .nil)))))))))
          have h7' := upd_same (H := upd (upd (upd (upd (upd (upd (upd (upd (upd G8 q1 (.tup [])) q2 (.lst [])) q3 (.dK [])) q4 (.tup [])) q5 (.tup [])) q6 (.tup [.ref q4, .ref q5])) q7 (.tup [])) q8 (.tup [.ref q7])) q9 (.tup [.non, .non])) (a := l7) (o := .lst [.non, .bl true, .int 0, .str "", .ref q1, .ref q2, .ref q3, .ref q6, .ref q8, .ref q9])
          have h8' := c1' _ _ h8
          have b8' := (b8.less (F := (· = p)) fun x h => .inl h).fr (FrX.same c1')
          have P9 := P8.same c1'
          have f9 := f8.trans (Fr.same c1')
          have pk9 := pk8.same c1'
          generalize upd (upd (upd (upd (upd (upd (upd (upd (upd (upd G8 q1 (.tup [])) q2 (.lst [])) q3 (.dK [])) q4 (.tup [])) q5 (.tup [])) q6 (.tup [.ref q4, .ref q5])) q7 (.tup [])) q8 (.tup [.ref q7])) q9 (.tup [.non, .non])) l7 (.lst [.non, .bl true, .int 0, .str "", .ref q1, .ref q2, .ref q3, .ref q6, .ref q8, .ref q9]) = G9 at ten h7' h8' b8' P9 f9 pk9
          have lv9 : [V.non, .bl true, .int 0, .str "", .ref q1, .ref q2, .ref q3, .ref q6, .ref q8, .ref q9].length = 10 := rfl
          refine ⟨l6, l7, v8, _, rfl, rfl, h8', h7', Nat.le_trans (show v8.length + 10 ≤ 1000 by omega) (by decide), fun l8 n8 => ?_⟩
          generalize [V.non, .bl true, .int 0, .str "", .ref q1, .ref q2, .ref q3, .ref q6, .ref q8, .ref q9] = tv at ten h7' lv9
          have a11 := same_upd (o := .lst (v8 ++ tv)) n8
          have b11 : Tfs (fun x => x = p ∨ x = l8) (upd G9 l8 (.lst (v8 ++ tv))) (v8 ++ tv) := ((b8'.app ten).more n8).fr (FrX.same a11)
          have P11 := P9.same a11
          have h11 := upd_same (H := G9) (a := l8) (o := .lst (v8 ++ tv))
          have n8p : l8 ≠ p := P9.ne n8
          have g8 : G l8 = none := f9.free n8p n8
          have f11 := f9.trans (Fr.same a11)
          have pk11 := pk9.same a11
          have lv11 : (v8 ++ tv).length = 15 := by rw [List.length_append, lv8, lv9]
          generalize upd G9 l8 (.lst (v8 ++ tv)) = G11 at b11 P11 h11 f11 pk11
          generalize v8 ++ tv = v11 at b11 h11 lv11
          refine gName_run ?_
          dsimp only
          show tSeq _ _ _ [some (.ref z), some (.int (i : Int)), some (.ref p), some (.int (a : Int)), some (.int (b : Int)), some (.ref t), some (.ref l8), y7, y8, y9, y10, y11] _
          refine ⟨.ref l8, rfl, .inl ⟨rfl, _, .inl (.inl h11)⟩, ?_⟩
          refine tcons_run (bents_ok (a := a) (b := b) (xs := xs) (ys := ys) (N := fun x => x = p ∨ x = l8) (fun v => rfl) (fun v => rfl) (fun v => rfl) (fun v => rfl) (fun v => rfl) ha hb P11 (by decide) pk11 (.inl rfl) ((lstOne P11).more h11) fun D G12 bs f12 P12 nD hD tb lb => ?_)
          have nDl : D ≠ l8 := fun y => by rw [y, h11] at nD; cases nD
          refine ⟨l8, D, v11, bs, rfl, rfl, f12 _ _ n8p h11, hD, Nat.le_trans (show v11.length + bs.length ≤ 1000 by omega) (by decide), ?_⟩
          have fu : FrX (fun x => x = p ∨ x = l8) G12 (upd G12 l8 (.lst (v11 ++ bs))) := fun b' o' nb hb' => by
            rw [upd_ne (fun y => nb (.inr y))]
            exact hb'
          have b13 : Tfs (fun x => x = p ∨ x = l8) (upd G12 l8 (.lst (v11 ++ bs))) (v11 ++ bs) := ((b11.fr (FrX.of f12 (.inl rfl))).fr fu).app (tb.fr fu)
          have f13 : Fr p G (upd G12 l8 (.lst (v11 ++ bs))) := fun b' o' nb hb' => by
            rw [upd_ne (ne_of_none hb' g8)]
            exact f12 _ _ nb (f11 _ _ nb hb')
          have h13 := upd_same (H := G12) (a := l8) (o := .lst (v11 ++ bs))
          generalize upd G12 l8 (.lst (v11 ++ bs)) = G13 at b13 f13 h13
          generalize v11 ++ bs = v13 at b13 h13
          dsimp only
          refine ⟨.ref l8, rfl, l8, rfl, ⟨_, .inl (.inl h13)⟩, ?_⟩
          refine for_list (xs := v13) (fun m σ G' => Same G13 G' ∧ ∃ y7 y8 y9 y10, σ = [some (.ref z), some (.int (i : Int)), some (.ref p), some (.int (a : Int)), some (.int (b : Int)), some (.ref t), some (.ref l8), y7, y8, y9, y10, y11]) ⟨Same.refl _, _, _, _, _, rfl⟩ (fun m σ G' _ h => .inl (.inl (h.1 _ _ h13))) ?_ ?_
          · rintro m v σ G' hv ⟨sm, y7, y8, y9, y10, rfl⟩
            obtain ⟨d, tv⟩ := b13 v (List.mem_of_getElem? hv)
            have tg : ∀ {X : Hp}, Same G13 X → TG (fun x => x = p ∨ x = l8) X v d := fun s => (tv.fr (FrX.same s)).tg
            obtain ⟨S, rp⟩ : ∃ S : Str, ∀ (X : Hp) (Q : VK), Same G13 X → Q (.str S) X → rReprQ [v] X Q := ⟨d.shown, fun X Q s h => (tv.fr (FrX.same s)).repr h⟩
            refine ⟨v, rfl, S, fun R h => rp _ _ sm h, ?_⟩
            refine ⟨.int (a : Int), rfl, .int (b : Int), rfl, v, rfl, _, v, d, (a : Int), (b : Int), rfl, tg sm, by omega, by omega, fun B1 H1 e1 r1 => ⟨_, fun R h => bl_repr h, _, _, rfl, ?_⟩⟩
            show tSeq _ _ _ [some (.ref z), some (.int (i : Int)), some (.ref p), some (.int (a : Int)), some (.int (b : Int)), some (.ref t), some (.ref l8), some v, some (.str S), some (.str (PyData.bool B1).shown), y10, y11] _
            have sm1 := sm.trans r1
            refine ⟨.int (a : Int), rfl, .int (b : Int), rfl, v, rfl, _, v, d, (a : Int), (b : Int), rfl, tg sm1, by omega, by omega, fun B2 H2 e2 r2 => ⟨_, fun R h => bl_repr h, ?_⟩⟩
            have sm2 := sm1.trans r2
            refine ⟨v, rfl, .int (b : Int), rfl, .int (a : Int), rfl, _, v, d, (a : Int), (b : Int), rfl, tg sm2, by omega, by omega, fun B3 H3 e3 r3 => ⟨_, fun R h => bl_repr h, ?_⟩⟩
            have sm3 := sm2.trans r3
            obtain rfl : B2 = B1 := by rw [e2, e1]
            obtain rfl : B3 = B2 := by rw [e3, e2]
            obtain ⟨sp, eq⟩ := two_strs B3
            refine ⟨by show 2 ≤ sizeLine; decide, fun l10 n10 => ?_⟩
            have r4 := same_upd (o := .lst [.str (PyData.bool B3).shown, .str (PyData.bool B3).shown]) n10
            generalize (PyData.bool B3).shown = W at sp eq r4 ⊢
            have h10 := upd_same (H := H3) (a := l10) (o := .lst [.str W, .str W])
            refine ⟨.ref l10, rfl, .str W, rfl, .str W, rfl, by show 2 ≤ sizeLine; decide, fun l11 n11 => ?_⟩
            have r5 := same_upd (o := .lst [.str W, .str W]) n11
            refine ⟨.list [.str W, .str W], .list [.str W, .str W], .lst (.inl (.inl (r5 _ _ h10))) (.cons (.str _) (.cons (.str _) .nil)), .lst (.inl (.inl upd_same)) (.cons (.str _) (.cons (.str _) .nil)), sp, sp, ?_⟩
            rw [eq]
            refine ⟨false, rfl, iteF ?_⟩
            have sm5 := sm3.trans (r4.trans r5)
            have en : (!decide (V.str S = V.str S)) = false := by rw [decide_eq_true rfl]; rfl
            refine ⟨v, rfl, S, fun R h => rp _ _ sm5 h, .str S, rfl, rfl, ?_⟩
            rw [en]
            exact ⟨false, rfl, iteF ⟨sm5, _, _, _, _, rfl⟩⟩
          · rintro σ G' ⟨sm, y7, y8, y9, y10, rfl⟩
            exact ⟨freshSeq hSG np (f13.trans (Fr.same sm)), _, _, _, _, _, _, _, _, _, _, _, rfl⟩
      · rintro σ G ⟨hSG, y1, y2, y3, y4, y5, y6, y7, y8, y9, y10, y11, rfl⟩
        exact q G
end
end C2

namespace C2
set_option Elab.async false
set_option linter.all false
set_option maxRecDepth 100000
set_option maxHeartbeats 4000000
open PySem PySem.Spec PyProof.Rows L2
theorem all_mk {l : PySem.W.OpenLaw} {w : World} {K : PySem.W.Frag} {h : Heap} {mg : Str → Option Value} {fa f1 f2 f3 f4 f5 f6 f7 f8 f9 f10 f11 f12 f13 f14 : Addr} (X : K.In h) (G : h.Ns mainGlobals mg) (hfa : mg "law" = some (.ref fa))
    {od1 an1 od2 an2 od3 an3 od4 an4 od5 an5 od6 an6 od7 an7 od8 an8 od9 an9 od10 an10 od11 an11 od12 an12 od13 an13 od14 an14 : Option Addr} {sl1 sl2 sl3 sl4 sl5 sl6 sl7 sl8 sl9 sl10 sl11 sl12 sl13 sl14 : Array (Option Value)}
    {oc1 kV1 dc1 pm1 cd1 ct1 oc2 kV2 dc2 pm2 cd2 ct2 oc3 kV3 dc3 pm3 cd3 ct3 oc4 kV4 dc4 pm4 cd4 ct4 oc5 kV5 dc5 pm5 cd5 ct5 oc6 kV6 dc6 pm6 cd6 ct6 oc7 kV7 dc7 pm7 cd7 ct7 oc8 kV8 dc8 pm8 cd8 ct8 oc9 kV9 dc9 pm9 cd9 ct9 oc10 kV10 dc10 pm10 cd10 ct10 oc11 kV11 dc11 pm11 cd11 ct11 oc12 kV12 dc12 pm12 cd12 ct12 oc13 kV13 dc13 pm13 cd13 ct13 oc14 kV14 dc14 pm14 cd14 ct14 : Value}
    (a1 : PySem.W.nsIn K mainGlobals "_law_pot" = some (some (.ref f1))) (l1 : K.lookup f1 = some ⟨oc1, od1, .func (PySem.W.fnOf "_law_pot" "_law_pot" (defArgs sDraws) (defBody sDraws) (defScope sDraws) .none kV1 dc1 pm1 an1 cd1 ct1), sl1⟩) (c1 : PySem.W.codeIn K cd1 "_law_pot" = true) (k1 : PySem.W.keepIn K (.ref f1) = true)
    (a2 : PySem.W.nsIn K mainGlobals "_law_take" = some (some (.ref f2))) (l2 : K.lookup f2 = some ⟨oc2, od2, .func (PySem.W.fnOf "_law_take" "_law_take" (defArgs sTake) (defBody sTake) (defScope sTake) .none kV2 dc2 pm2 an2 cd2 ct2), sl2⟩) (c2 : PySem.W.codeIn K cd2 "_law_take" = true) (k2 : PySem.W.keepIn K (.ref f2) = true)
    (a3 : PySem.W.nsIn K mainGlobals "_law_of" = some (some (.ref f3))) (l3 : K.lookup f3 = some ⟨oc3, od3, .func (PySem.W.fnOf "_law_of" "_law_of" (defArgs sOf) (defBody sOf) (defScope sOf) .none kV3 dc3 pm3 an3 cd3 ct3), sl3⟩) (c3 : PySem.W.codeIn K cd3 "_law_of" = true) (k3 : PySem.W.keepIn K (.ref f3) = true)
    (a4 : PySem.W.nsIn K mainGlobals "_law_pick" = some (some (.ref f4))) (l4 : K.lookup f4 = some ⟨oc4, od4, .func (PySem.W.fnOf "_law_pick" "_law_pick" (defArgs sPick) (defBody sPick) (defScope sPick) .none kV4 dc4 pm4 an4 cd4 ct4), sl4⟩) (c4 : PySem.W.codeIn K cd4 "_law_pick" = true) (k4 : PySem.W.keepIn K (.ref f4) = true)
    (a5 : PySem.W.nsIn K mainGlobals "_law_size" = some (some (.ref f5))) (l5 : K.lookup f5 = some ⟨oc5, od5, .func (PySem.W.fnOf "_law_size" "_law_size" (defArgs sSize) (defBody sSize) (defScope sSize) .none kV5 dc5 pm5 an5 cd5 ct5), sl5⟩) (c5 : PySem.W.codeIn K cd5 "_law_size" = true) (k5 : PySem.W.keepIn K (.ref f5) = true)
    (a6 : PySem.W.nsIn K mainGlobals "_law_bent" = some (some (.ref f6))) (l6 : K.lookup f6 = some ⟨oc6, od6, .func (PySem.W.fnOf "_law_bent" "_law_bent" (defArgs sBent) (defBody sBent) (defScope sBent) .none kV6 dc6 pm6 an6 cd6 ct6), sl6⟩) (c6 : PySem.W.codeIn K cd6 "_law_bent" = true) (k6 : PySem.W.keepIn K (.ref f6) = true)
    (a7 : PySem.W.nsIn K mainGlobals "_law_is_pick" = some (some (.ref f7))) (l7 : K.lookup f7 = some ⟨oc7, od7, .func (PySem.W.fnOf "_law_is_pick" "_law_is_pick" (defArgs sLIsPick) (defBody sLIsPick) (defScope sLIsPick) .none kV7 dc7 pm7 an7 cd7 ct7), sl7⟩) (c7 : PySem.W.codeIn K cd7 "_law_is_pick" = true) (k7 : PySem.W.keepIn K (.ref f7) = true)
    (a8 : PySem.W.nsIn K mainGlobals "_law_are" = some (some (.ref f8))) (l8 : K.lookup f8 = some ⟨oc8, od8, .func (PySem.W.fnOf "_law_are" "_law_are" (defArgs sAre) (defBody sAre) (defScope sAre) .none kV8 dc8 pm8 an8 cd8 ct8), sl8⟩) (c8 : PySem.W.codeIn K cd8 "_law_are" = true) (k8 : PySem.W.keepIn K (.ref f8) = true)
    (a9 : PySem.W.nsIn K mainGlobals "is_pick" = some (some (.ref f9))) (l9 : K.lookup f9 = some ⟨oc9, od9, .func (PySem.W.fnOf "is_pick" "is_pick" (defArgs sIsPick) (defBody sIsPick) (defScope sIsPick) .none kV9 dc9 pm9 an9 cd9 ct9), sl9⟩) (c9 : PySem.W.codeIn K cd9 "is_pick" = true) (k9 : PySem.W.keepIn K (.ref f9) = true)
    (a10 : PySem.W.nsIn K mainGlobals "is_numbers" = some (some (.ref f10))) (l10 : K.lookup f10 = some ⟨oc10, od10, .func (PySem.W.fnOf "is_numbers" "is_numbers" (defArgs sNumbers) (defBody sNumbers) (defScope sNumbers) .none kV10 dc10 pm10 an10 cd10 ct10), sl10⟩) (c10 : PySem.W.codeIn K cd10 "is_numbers" = true) (k10 : PySem.W.keepIn K (.ref f10) = true)
    (a11 : PySem.W.nsIn K mainGlobals "is_whole" = some (some (.ref f11))) (l11 : K.lookup f11 = some ⟨oc11, od11, .func (PySem.W.fnOf "is_whole" "is_whole" (defArgs sPWhole) (defBody sPWhole) (defScope sPWhole) .none kV11 dc11 pm11 an11 cd11 ct11), sl11⟩) (c11 : PySem.W.codeIn K cd11 "is_whole" = true) (k11 : PySem.W.keepIn K (.ref f11) = true)
    (a12 : PySem.W.nsIn K mainGlobals "is_between" = some (some (.ref f12))) (l12 : K.lookup f12 = some ⟨oc12, od12, .func (PySem.W.fnOf "is_between" "is_between" (defArgs sBetween) (defBody sBetween) (defScope sBetween) .none kV12 dc12 pm12 an12 cd12 ct12), sl12⟩) (c12 : PySem.W.codeIn K cd12 "is_between" = true) (k12 : PySem.W.keepIn K (.ref f12) = true)
    (a13 : PySem.W.nsIn K mainGlobals "is_tuple_of" = some (some (.ref f13))) (l13 : K.lookup f13 = some ⟨oc13, od13, .func (PySem.W.fnOf "is_tuple_of" "is_tuple_of" (defArgs sTupOf) (defBody sTupOf) (defScope sTupOf) .none kV13 dc13 pm13 an13 cd13 ct13), sl13⟩) (c13 : PySem.W.codeIn K cd13 "is_tuple_of" = true) (k13 : PySem.W.keepIn K (.ref f13) = true)
    (a14 : PySem.W.nsIn K mainGlobals "law" = some (some (.ref f14))) (l14 : K.lookup f14 = some ⟨oc14, od14, .func (PySem.W.fnOf "law" "law" (defArgs sLaw) (defBody sLaw) (defScope sLaw) .none kV14 dc14 pm14 an14 cd14 ct14), sl14⟩) (c14 : PySem.W.codeIn K cd14 "law" = true) (k14 : PySem.W.keepIn K (.ref f14) = true)
    (z1 : PySem.W.nsIn K mainGlobals "isinstance" = some none) (z2 : PySem.W.nsIn K mainGlobals "int" = some none) (z3 : PySem.W.nsIn K mainGlobals "bool" = some none) (z4 : PySem.W.nsIn K mainGlobals "tuple" = some none) (z5 : PySem.W.nsIn K mainGlobals "len" = some none) (z6 : PySem.W.nsIn K mainGlobals "all" = some none) (z7 : PySem.W.nsIn K mainGlobals "range" = some none) (z8 : PySem.W.nsIn K mainGlobals "min" = some none) (z9 : PySem.W.nsIn K mainGlobals "max" = some none) (z10 : PySem.W.nsIn K mainGlobals "repr" = some none) (z11 : PySem.W.nsIn K mainGlobals "abs" = some none) (z12 : PySem.W.nsIn K mainGlobals "sorted" = some none) (z13 : PySem.W.nsIn K mainGlobals "list" = some none) :
    ∃ fd : FuncData, (∀ (s : Shared) (v : Value), BindsTo s fd ⟨[v], []⟩ [("_law_script", v)]) ∧ ∀ base : Heap, K.In base → base.Ns mainGlobals mg → FnG l.prog w K mg base 5 fa fd ["_law_script"] (spLaw K) := by
  have e := hfa.symm.trans (PySem.W.mg_of X G a14)
  cases e
  have F1 := fun_mk (st := sDraws) l1 c1 k1
  have F2 := fun_mk (st := sTake) l2 c2 k2
  have F3 := fun_mk (st := sOf) l3 c3 k3
  have F4 := fun_mk (st := sPick) l4 c4 k4
  have F5 := fun_mk (st := sSize) l5 c5 k5
  have F6 := fun_mk (st := sBent) l6 c6 k6
  have F7 := fun_mk (st := sLIsPick) l7 c7 k7
  have F8 := fun_mk (st := sAre) l8 c8 k8
  have F9 := fun_mk (st := sIsPick) l9 c9 k9
  have F10 := fun_mk (st := sNumbers) l10 c10 k10
  have F11 := fun_mk (st := sPWhole) l11 c11 k11
  have F12 := fun_mk (st := sBetween) l12 c12 k12
  have F13 := fun_mk (st := sTupOf) l13 c13 k13
  have F14 := fun_mk (st := sLaw) l14 c14 k14
  have b1 := F1.binds (ps := ["_law_script", "_law_k"]) fun _ _ _ _ _ _ us hl => match us, hl with | [_, _], _ => rfl
  have b2 := F2.binds (ps := ["_law_pot_here", "_law_many"]) fun _ _ _ _ _ _ us hl => match us, hl with | [_, _], _ => rfl
  have b3 := F3.binds (ps := ["_law_pot_here", "_law_some"]) fun _ _ _ _ _ _ us hl => match us, hl with | [_, _], _ => rfl
  have b4 := F4.binds (ps := ["_law_pot_here", "_law_wide", "_law_high"]) fun _ _ _ _ _ _ us hl => match us, hl with | [_, _, _], _ => rfl
  have b5 := F5.binds (ps := ["_law_pot_here", "_law_most"]) fun _ _ _ _ _ _ us hl => match us, hl with | [_, _], _ => rfl
  have b6 := F6.binds (ps := ["_law_pot_here", "_law_wide", "_law_high", "_law_pick_here"]) fun _ _ _ _ _ _ us hl => match us, hl with | [_, _, _, _], _ => rfl
  have b7 := F7.binds (ps := ["_law_wide", "_law_high", "_law_what"]) fun _ _ _ _ _ _ us hl => match us, hl with | [_, _, _], _ => rfl
  have b8 := F8.binds (ps := ["_law_what", "_law_many", "_law_most"]) fun _ _ _ _ _ _ us hl => match us, hl with | [_, _, _], _ => rfl
  have b9 := F9.binds (ps := ["a", "b", "thing"]) fun _ _ _ _ _ _ us hl => match us, hl with | [_, _, _], _ => rfl
  have b10 := F10.binds (ps := ["thing", "many", "most"]) fun _ _ _ _ _ _ us hl => match us, hl with | [_, _, _], _ => rfl
  have b11 := F11.binds (ps := ["thing"]) fun _ _ _ _ _ _ us hl => match us, hl with | [_], _ => rfl
  have b12 := F12.binds (ps := ["thing", "least", "most"]) fun _ _ _ _ _ _ us hl => match us, hl with | [_, _, _], _ => rfl
  have b13 := F13.binds (ps := ["thing", "many"]) fun _ _ _ _ _ _ us hl => match us, hl with | [_, _], _ => rfl
  exact ⟨PySem.W.fnOf "law" "law" (defArgs sLaw) (defBody sLaw) (defScope sLaw) .none kV14 dc14 pm14 an14 cd14 ct14, fun s v => .of_eq rfl, fun base _ _ =>
    ok_law F14 F1 F2 F3 F4 F5 F6 F7 F8 F9 F10 F11 F12 F13 b1 b2 b3 b4 b5 b6 b7 b8 b9 b10 b11 b12 b13 (PySem.W.mg_of X G a1) (PySem.W.mg_of X G a2) (PySem.W.mg_of X G a3) (PySem.W.mg_of X G a4) (PySem.W.mg_of X G a5) (PySem.W.mg_of X G a6) (PySem.W.mg_of X G a7) (PySem.W.mg_of X G a8) (PySem.W.mg_of X G a9) (PySem.W.mg_of X G a10) (PySem.W.mg_of X G a11) (PySem.W.mg_of X G a12) (PySem.W.mg_of X G a13) (PySem.W.mg_none_of X G z1) (PySem.W.mg_none_of X G z2) (PySem.W.mg_none_of X G z3) (PySem.W.mg_none_of X G z4) (PySem.W.mg_none_of X G z5) (PySem.W.mg_none_of X G z6) (PySem.W.mg_none_of X G z7) (PySem.W.mg_none_of X G z8) (PySem.W.mg_none_of X G z9) (PySem.W.mg_none_of X G z10) (PySem.W.mg_none_of X G z11) (PySem.W.mg_none_of X G z12) (PySem.W.mg_none_of X G z13)⟩
end C2
open PySem PySem.W PyProof.Rows
set_option maxRecDepth 100000 in
set_option maxHeartbeats 0 in
theorem PySem.Challenge.cw_cornertold_k23_picks_or_not_holds : PySem.Challenge.rw_cornertold_k23_picks_or_not.Holds := by
  w_on; o_law; k_head; (case hw => w_witness2)
  k_fill
  refine C2.walkG (l := PySem.Challenge.rw_cornertold_k23_picks_or_not) (n := 63) (k := 5) (x := "_law_script") (sp := C2.spLaw) rfl (by decide) rfl ⟨rfl, by decide, by decide⟩ (fun w h Y => PySem.W.kIn_of Y) ?F (fun _ _ a ns hl hS => ⟨a, ns, rfl, hS, hl, fun _ => rfl⟩)
  case F =>
    intro w mg fa h KX G hmg
    refine' C2.all_mk KX G hmg ?a1 ?l1 ?c1 ?k1 ?a2 ?l2 ?c2 ?k2 ?a3 ?l3 ?c3 ?k3 ?a4 ?l4 ?c4 ?k4 ?a5 ?l5 ?c5 ?k5 ?a6 ?l6 ?c6 ?k6 ?a7 ?l7 ?c7 ?k7 ?a8 ?l8 ?c8 ?k8 ?a9 ?l9 ?c9 ?k9 ?a10 ?l10 ?c10 ?k10 ?a11 ?l11 ?c11 ?k11 ?a12 ?l12 ?c12 ?k12 ?a13 ?l13 ?c13 ?k13 ?a14 ?l14 ?c14 ?k14 ?z1 ?z2 ?z3 ?z4 ?z5 ?z6 ?z7 ?z8 ?z9 ?z10 ?z11 ?z12 ?z13
    (case a1 => k_is); (case l1 => k_is); (case c1 => k_is); (case k1 => k_is); (case a2 => k_is); (case l2 => k_is); (case c2 => k_is); (case k2 => k_is)
    (case a3 => k_is); (case l3 => k_is); (case c3 => k_is); (case k3 => k_is); (case a4 => k_is); (case l4 => k_is); (case c4 => k_is); (case k4 => k_is)
    (case a5 => k_is); (case l5 => k_is); (case c5 => k_is); (case k5 => k_is); (case a6 => k_is); (case l6 => k_is); (case c6 => k_is); (case k6 => k_is)
    (case a7 => k_is); (case l7 => k_is); (case c7 => k_is); (case k7 => k_is); (case a8 => k_is); (case l8 => k_is); (case c8 => k_is); (case k8 => k_is)
    (case a9 => k_is); (case l9 => k_is); (case c9 => k_is); (case k9 => k_is); (case a10 => k_is); (case l10 => k_is); (case c10 => k_is); (case k10 => k_is)
    (case a11 => k_is); (case l11 => k_is); (case c11 => k_is); (case k11 => k_is); (case a12 => k_is); (case l12 => k_is); (case c12 => k_is); (case k12 => k_is)
    (case a13 => k_is); (case l13 => k_is); (case c13 => k_is); (case k13 => k_is); (case a14 => k_is); (case l14 => k_is); (case c14 => k_is); (case k14 => k_is)
    (case z1 => k_is); (case z2 => k_is); (case z3 => k_is); (case z4 => k_is); (case z5 => k_is); (case z6 => k_is); (case z7 => k_is); (case z8 => k_is)
    (case z9 => k_is); (case z10 => k_is); (case z11 => k_is); (case z12 => k_is); (case z13 => k_is)
