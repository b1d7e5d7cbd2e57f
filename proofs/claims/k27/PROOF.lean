import PyProof.Rows.All
import Wide.All
import OpenK.AllK
import Wide.FinOn
import HandS.ForMost
import HandS.Wide
import HandS.Style
import HandS.Comp
import HandS.Walk
import HandS.Zip
import KE.GoesMore
import KE.GoesEnum
import HandS.Conv
import HandS.IsInst
import HandS.TupAny
import PyProof.CallFns
import HandS.Deep
import HandS.TupMul
import PySem.Challenge.RW_cornertold_k27_mills_looked_at
set_option Elab.async false
set_option linter.all false
set_option maxRecDepth 100000
namespace C2
set_option Elab.async false
set_option linter.all false
set_option maxRecDepth 100000
set_option maxHeartbeats 4000000
open PySem PySem.Spec PyProof.Rows L2
def topS (i : Nat) : Stmt := PySem.Challenge.pw_cornertold_k27_mills_looked_at.main.body.getD i (.Pass ⟨0, 0, 0, 0⟩)
abbrev sPWhole : Stmt := topS 1
abbrev sBetween : Stmt := topS 2
abbrev sTupOf : Stmt := topS 3
abbrev sComes : Stmt := topS 5
abbrev sSizeP : Stmt := topS 6
abbrev sIsMill : Stmt := topS 10
abbrev sPairB : Stmt := topS 11
abbrev sDraws : Stmt := topS 13
abbrev sTake : Stmt := topS 14
abbrev sOf : Stmt := topS 15
abbrev sPick : Stmt := topS 16
abbrev sSize : Stmt := topS 17
abbrev sLComes : Stmt := topS 18
abbrev sLMill : Stmt := topS 19
abbrev sPairs : Stmt := topS 20
abbrev sMills : Stmt := topS 21
abbrev sOne : Stmt := topS 22
abbrev sBent : Stmt := topS 23
abbrev sLaw : Stmt := topS 24
theorem scDraws : FnScope ["_law_script", "_law_k", "_law_cell", "_law_great"] ["_law_script", "_law_k"] (defScope sDraws) := ⟨rfl, rfl, rfl, by decide +kernel, rfl, by decide +kernel, by decide +kernel⟩
theorem scOf : FnScope ["_law_pot_here", "_law_some"] ["_law_pot_here", "_law_some"] (defScope sOf) := ⟨rfl, rfl, rfl, by decide +kernel, rfl, by decide +kernel, by decide +kernel⟩
theorem scTake : FnScope ["_law_pot_here", "_law_many", "_law_digit", "_law_turn", "_law_prime", "_law_drawn"] ["_law_pot_here", "_law_many"] (defScope sTake) := ⟨rfl, rfl, rfl, by decide +kernel, rfl, by decide +kernel, by decide +kernel⟩

/-- all that was tracked, but what stands at p, is as it was -/
def Fr (p : Addr) (H H' : Hp) : Prop := ∀ b o, b ≠ p → H b = some o → H' b = some o
theorem Fr.refl (p : Addr) (H : Hp) : Fr p H H := fun _ _ _ h => h
theorem Fr.trans {p : Addr} {H H1 H2 : Hp} (a : Fr p H H1) (b : Fr p H1 H2) : Fr p H H2 := fun c o n h => b c o n (a c o n h)
theorem Fr.same {p : Addr} {H H1 : Hp} (a : Same H H1) : Fr p H H1 := fun c o _ h => a c o h
theorem Fr.upd {p : Addr} {H : Hp} {o : HO} : Fr p H (upd H p o) := fun c u n h => by rw [upd_ne n]; exact h
theorem Fr.new {p q : Addr} {H : Hp} {o : HO} (h : H q = none) : Fr p H (L2.upd H q o) := fun c u n e => by rw [upd_ne (ne_of_none e h)]; exact e
theorem Fr.free {p : Addr} {H H' : Hp} (e : Fr p H H') {l : Addr} (n : l ≠ p) (h : H' l = none) : H l = none := by
  cases q : H l with
  | none => rfl
  | some o => rw [e l o n q] at h; cases h
theorem same_upd {H : Hp} {p : Addr} {o : HO} (h : H p = none) : Same H (upd H p o) := fun b x e => by
  rw [upd_ne (ne_of_none e h)]
  exact e
def PotAt (H : Hp) (p : Addr) (n : Nat) : Prop := ∃ g c t : Int, H p = some (.lst [.int g, .int c, .int t]) ∧ 0 ≤ t ∧ t ≤ (n : Int)
section
variable {P : Program} {w : World} {K : PySem.W.Frag} {mg : Str → Option Value} {base : Heap}
/-! ### draws -/
def spDraws (K : PySem.W.Frag) : Sp := fun vs H Q _ => ∃ (a : Addr) (ns : List Int) (k : Nat), vs = [.ref a, .int (k : Int)] ∧ SqL K H a (ns.map V.int) ∧ k ≤ 1000 ∧
  ∀ H' p, Same H H' → H p = none → PotAt H' p 0 → Q (.ref p) H'
theorem pow_ok1 : CPow 10 18 := ⟨by decide, by decide, by decide⟩
theorem pow_ok2 : CPow 10 60 := ⟨by decide, by decide, by decide⟩
theorem wide1 : CMulW ((10 : Int) ^ (60 : Int).toNat) ((10 : Int) ^ (60 : Int).toNat) := wide_mul (a := 200) (b := 200) (by decide +kernel) (by decide +kernel) (by decide) (by decide) (by decide)
theorem wide2 : CMulW ((10 : Int) ^ (60 : Int).toNat * (10 : Int) ^ (60 : Int).toNat) ((10 : Int) ^ (60 : Int).toNat) := wide_mul (a := 400) (b := 200) (by decide +kernel) (by decide +kernel) (by decide) (by decide) (by decide)
theorem wide3 : (0 : Int) < (10 : Int) ^ (60 : Int).toNat * (10 : Int) ^ (60 : Int).toNat * (10 : Int) ^ (60 : Int).toNat := by decide +kernel
theorem fin_draws {H : Hp} {Q : VK} {a : Addr} {k : Nat} (q : ∀ (H' : Hp) (p : Addr), Same H H' → H p = none → PotAt H' p 0 → Q (V.ref p) H') (hk : k ≤ 1000) (cell great : Int) :
    tRet (tLst (tCons (tVar 3) (tCons (tOp (rI (fun x j => 0 < j) fun i j => V.int (i % j)) (tOp (rI0 fun i j => V.int (i + j)) (tOp (rI0 fun i j => V.int (i + j))
      (tOp (rI CMul fun i j => V.int (i * j)) (tOp (rI (fun x j => 0 < j) fun i j => V.int (i % j)) (tVar 2) (tC (V.int 2305843009213693951))) (tC (V.int 1000033)))
      (tOp (rI CMul fun i j => V.int (i * j)) (tC (V.int 7919)) (tVar 1))) (tC (V.int 41))) (tC (V.int 2305843009213693921))) (tCons (tC (V.int 0)) tNil))))
      { nx := fun x H' => Q V.non H', rt := Q } [some (V.ref a), some (V.int (k : Int)), some (V.int cell), some (V.int great)] H := by
  refine ⟨.int great, rfl, .int cell, rfl, cell, 2305843009213693951, rfl, rfl, (by show (0 : Int) < 2305843009213693951; decide), _, 1000033, rfl, rfl, .inr ⟨by decide, by decide⟩, .int (k : Int), rfl, 7919, (k : Int), rfl, rfl, .inl ⟨by decide, by decide⟩, _, _, rfl, rfl, _, 41, rfl, rfl, _, _, rfl, rfl, (by show (0 : Int) < 2305843009213693921; decide), by show 3 ≤ sizeLine; decide, fun p np => ?_⟩
  exact q _ p (same_upd np) np ⟨_, _, _, upd_same, Int.le_refl _, Int.le_refl _⟩
theorem ok_draws {f : Addr} {fd : FuncData} {k : Nat} (F : Fun K "_law_pot" "_law_pot" sDraws f fd) (ml : mg "len" = none) (ma : mg "abs" = none) : FnOk P w K mg base CX0 (k + 1) f fd ["_law_script", "_law_k"] (spDraws K) := by
  refine F.ok scDraws (fun vs H Q E h => ?_) (fun cdv A outer s H vs Q E hr h => ?_)
  · obtain ⟨a, ns, k, rfl, _⟩ := h
    rfl
  · obtain ⟨a, ns, k, rfl, hS, hk, q⟩ := h
    refine ⟨_, pss_cons (ps_set (i := 2) scDraws.nd rfl (.inl rfl) (pe_ifExp (pt_cmpR op_lt (pv 1) (pe_callB call_len_seq (by rfl) ml PySem.boot_len (pa_cons (pv 0) pa_nil)) (nomark _))
          (pe_ix ix_list (pv 0) (pv 1) (fun _ _ => rfl)) (pe_op op_add (pe_op op_mul pe_int (pv 1)) pe_int)))
      (pss_cons (ps_set (i := 3) scDraws.nd rfl (.inl rfl) (pe_ifExp (pt_cmpR op_ge (pe_callB call_abs (by rfl) ma (by decide +kernel) (pa_cons (pv 2) pa_nil)) (pe_op op_pow pe_int pe_int) (nomark _))
          (pe_op op_mod (pe_callB call_abs (by rfl) ma (by decide +kernel) (pa_cons (pv 2) pa_nil)) (pe_op op_mulW (pe_op op_mulW (pe_op op_pow pe_int pe_int) (pe_op op_pow pe_int pe_int)) (pe_op op_pow pe_int pe_int))) pe_int))
      (pss_one (ps_ret (pe_lst (pa_cons (pv 3) (pa_cons (pe_op op_mod (pe_op op_add (pe_op op_add (pe_op op_mul (pe_op op_mod (pv 2) pe_int) pe_int) (pe_op op_mul pe_int (pv 1))) pe_int) pe_int) (pa_cons pe_int pa_nil))))))), ?_⟩
    refine ⟨.int (k : Int), rfl, .ref a, rfl, a, _, rfl, .inl hS, _, _, rfl, rfl, _, rfl, ite2 (fun e => ?_) (fun e => ?_)⟩
    · have e1 : k < ns.length := by
        have := of_decide_eq_true e
        rw [List.length_map] at this
        omega
      refine ⟨.ref a, rfl, .int (k : Int), rfl, a, _, _, .int ns[k], rfl, rfl, hS, atI_nat (by rw [List.getElem?_map, List.getElem?_eq_getElem e1]; rfl), ?_⟩
      generalize ns[k] = cell
      refine ⟨.int cell, rfl, cell, rfl, 10, 18, rfl, rfl, pow_ok1, _, _, rfl, rfl, _, rfl, ite2 (fun e => ?_) (fun e => ?_)⟩
      · refine ⟨.int cell, rfl, cell, rfl, 10, 60, rfl, rfl, pow_ok2, 10, 60, rfl, rfl, pow_ok2, _, _, rfl, rfl, wide1, 10, 60, rfl, rfl, pow_ok2, _, _, rfl, rfl, wide2, _, _, rfl, rfl, wide3, ?_⟩
        exact fin_draws q hk _ _
      · exact fin_draws q hk _ _
    · refine ⟨.int (k : Int), rfl, 5, (k : Int), rfl, rfl, .inl ⟨by decide, by decide⟩, _, 3, rfl, rfl, ?_⟩
      refine ⟨_, rfl, _, rfl, 10, 18, rfl, rfl, pow_ok1, _, _, rfl, rfl, _, rfl, ite2 (fun e => ?_) (fun e => ?_)⟩
      · refine ⟨_, rfl, _, rfl, 10, 60, rfl, rfl, pow_ok2, 10, 60, rfl, rfl, pow_ok2, _, _, rfl, rfl, wide1, 10, 60, rfl, rfl, pow_ok2, _, _, rfl, rfl, wide2, _, _, rfl, rfl, wide3, ?_⟩
        exact fin_draws q hk _ _
      · exact fin_draws q hk _ _
end
end C2

namespace C2
set_option Elab.async false
set_option linter.all false
set_option maxRecDepth 100000
set_option maxHeartbeats 4000000
open PySem PySem.Spec PyProof.Rows L2
section
variable {P : Program} {w : World} {K : PySem.W.Frag} {mg : Str → Option Value} {base : Heap}
def primes : List V := [.int 2147483647, .int 2147483629, .int 2147483587, .int 2147483579, .int 2147483563, .int 2147483549, .int 2147483543]
theorem primes_at {r : Int} (h0 : 0 ≤ r) (h1 : r < 7) : ∃ v : Int, atI primes r = some (.int v) ∧ 0 < v ∧ v < 2147483648 := by
  have : r = 0 ∨ r = 1 ∨ r = 2 ∨ r = 3 ∨ r = 4 ∨ r = 5 ∨ r = 6 := by omega
  rcases this with rfl | rfl | rfl | rfl | rfl | rfl | rfl <;> exact ⟨_, rfl, by decide, by decide⟩
def spTake : Sp := fun vs H Q _ => ∃ (p : Addr) (m : Int) (n : Nat), vs = [.ref p, .int m] ∧ PotAt H p n ∧ n < 1000000 ∧ 0 < m ∧ m < 1073741824 ∧
  ∀ (d : Int) H', Fr p H H' → PotAt H' p (n + 1) → 0 ≤ d → d < m → Q (.int d) H'
theorem ok_take {f : Addr} {fd : FuncData} {k : Nat} (F : Fun K "_law_take" "_law_take" sTake f fd) : FnOk P w K mg base CX0 (k + 1) f fd ["_law_pot_here", "_law_many"] spTake := by
  refine F.ok scTake (fun vs H Q E h => ?_) (fun cdv A outer s H vs Q E hr h => ?_)
  · obtain ⟨a, ns, k, rfl, _⟩ := h
    rfl
  · obtain ⟨p, m, n, rfl, ⟨g, c, t, hp, ht0, ht1⟩, hn, hm0, hm1, q⟩ := h
    refine ⟨_, pss_cons (ps_if (pt_cmpR op_gt (pe_ix ix_list (pv 0) pe_int (fun _ _ => rfl)) pe_int (nomark _))
        (pss_cons (ps_set (i := 2) scTake.nd rfl (.inl rfl) (pe_op op_mod (pe_ix ix_list (pv 0) pe_int (fun _ _ => rfl)) (pv 1)))
          (pss_cons (ps_asg (pe_op op_fdiv (pe_ix ix_list (pv 0) pe_int (fun _ _ => rfl)) (pv 1)) (pg_sub (pv 0) pe_int set_list)) (pss_one (ps_ret (pv 2))))) pss_nil)
      (pss_cons (ps_set (i := 3) scTake.nd rfl (.inl rfl) (pe_op op_add (pe_ix ix_list (pv 0) pe_int (fun _ _ => rfl)) pe_int))
      (pss_cons (ps_asg (pv 3) (pg_sub (pv 0) pe_int set_list))
      (pss_cons (ps_set (i := 4) scTake.nd rfl (.inl rfl) (pe_ix ix_list (pe_lst (pa_cons pe_int (pa_cons pe_int (pa_cons pe_int (pa_cons pe_int (pa_cons pe_int (pa_cons pe_int (pa_cons pe_int pa_nil))))))))
          (pe_op op_mod (pv 3) pe_int) (fun _ _ => rfl)))
      (pss_cons (ps_set (i := 5) scTake.nd rfl (.inl rfl) (pe_op op_add (pe_op op_mod (pe_op op_mod (pe_op op_add (pe_ix ix_list (pv 0) pe_int (fun _ _ => rfl))
          (pe_op op_mul (pe_op op_mul pe_int (pv 3)) (pv 3))) (pe_op op_mul (pv 4) (pv 4))) (pv 4)) pe_int))
      (pss_one (ps_ret (pe_op op_mod (pe_op op_fdiv (pe_op op_mod (pe_op op_mul (pv 5) (pe_op op_add (pe_op op_mod (pv 5) pe_int) (pv 3))) (pv 4)) pe_int) (pv 1)))))))), ?_⟩
    have L0 : SqL K H p [.int g, .int c, .int t] := .inl (.inl hp)
    refine ⟨.ref p, rfl, p, _, 0, .int g, rfl, rfl, L0, rfl, _, _, rfl, rfl, _, rfl, ite2 (fun e => ?_) (fun e => ?_)⟩
    · refine ⟨.ref p, rfl, p, _, 0, .int g, rfl, rfl, L0, rfl, .int m, rfl, _, _, rfl, rfl, hm0, ?_⟩
      refine ⟨.ref p, rfl, p, _, 0, .int g, rfl, rfl, L0, rfl, .int m, rfl, _, _, rfl, rfl, ⟨hm0, hm1⟩, ?_⟩
      refine ⟨.ref p, rfl, p, _, 0, 0, rfl, rfl, hp, rfl, ?_⟩
      refine ⟨_, rfl, q _ _ Fr.upd ⟨_, _, _, upd_same, ht0, by omega⟩ (Int.emod_nonneg _ (by omega)) (Int.emod_lt_of_pos _ hm0)⟩
    · refine ⟨.ref p, rfl, p, _, 2, .int t, rfl, rfl, L0, rfl, _, 1, rfl, rfl, ?_⟩
      refine ⟨.int (t + 1), rfl, .ref p, rfl, p, _, 2, 2, rfl, rfl, hp, rfl, ?_⟩
      have hp2 : (upd H p (.lst (List.set [.int g, .int c, .int t] 2 (.int (t + 1))))) p = some (.lst [.int g, .int c, .int (t + 1)]) := upd_same
      refine ⟨by show 7 ≤ sizeLine; decide, fun o no => ?_⟩
      have npo : p ≠ o := ne_of_none hp2 no
      have hp3 : (upd (upd H p (.lst (List.set [.int g, .int c, .int t] 2 (.int (t + 1))))) o (.lst primes)) p = some (.lst [.int g, .int c, .int (t + 1)]) := by
        rw [upd_ne npo]
        exact hp2
      have fr3 : Fr p H (upd (upd H p (.lst (List.set [.int g, .int c, .int t] 2 (.int (t + 1))))) o (.lst primes)) := Fr.trans Fr.upd (Fr.new no)
      have L3 : SqL K (upd (upd H p (.lst (List.set [.int g, .int c, .int t] 2 (.int (t + 1))))) o (.lst primes)) p [.int g, .int c, .int (t + 1)] := .inl (.inl hp3)
      have LO : SqL K (upd (upd H p (.lst (List.set [.int g, .int c, .int t] 2 (.int (t + 1))))) o (.lst primes)) o primes := .inl (.inl upd_same)
      obtain ⟨v, hv, v0, v1⟩ := primes_at (r := (t + 1) % 7) (Int.emod_nonneg _ (by decide)) (Int.emod_lt_of_pos _ (by decide))
      have b20 : (-(2 ^ 64) : Int) < t + 1 ∧ t + 1 < 2 ^ 64 := ⟨by omega, by omega⟩
      have bv : (-(2 ^ 64) : Int) < v ∧ v < 2 ^ 64 := ⟨by omega, by omega⟩
      refine ⟨.int (t + 1), rfl, _, 7, rfl, rfl, (by show (0 : Int) < 7; decide), o, _, _, _, rfl, rfl, LO, hv, ?_⟩
      refine ⟨.ref p, rfl, p, _, 1, .int c, rfl, rfl, L3, rfl, .int (t + 1), rfl, 69621, _, rfl, rfl, .inr b20, .int (t + 1), rfl, _, _, rfl, rfl, .inr b20, _, _, rfl, rfl,
        .int v, rfl, .int v, rfl, v, v, rfl, rfl, .inl bv, _, _, rfl, rfl, (Int.mul_pos v0 v0), .int v, rfl, _, _, rfl, rfl, v0, _, 1, rfl, rfl, ?_⟩
      have z0 := Int.emod_nonneg ((c + 69621 * (t + 1) * (t + 1)) % (v * v)) (show v ≠ 0 by omega)
      have z1 := Int.emod_lt_of_pos ((c + 69621 * (t + 1) * (t + 1)) % (v * v)) v0
      generalize (c + 69621 * (t + 1) * (t + 1)) % (v * v) % v = z at z0 z1
      have bz : (-(2 ^ 64) : Int) < z + 1 ∧ z + 1 < 2 ^ 64 := ⟨by omega, by omega⟩
      refine ⟨.int (z + 1), rfl, .int (z + 1), rfl, z + 1, 1009, rfl, rfl, (by show (0 : Int) < 1009; decide), .int (t + 1), rfl, _, _, rfl, rfl, _, _, rfl, rfl, .inl bz, .int v, rfl, _, _, rfl, rfl, v0, _, 7, rfl, rfl, ⟨by decide, by decide⟩,
        .int m, rfl, _, _, rfl, rfl, hm0, ?_⟩
      exact q _ _ fr3 ⟨_, _, _, hp3, by omega, by omega⟩ (Int.emod_nonneg _ (by omega)) (Int.emod_lt_of_pos _ hm0)
end
end C2

namespace C2
set_option Elab.async false
set_option linter.all false
set_option maxRecDepth 100000
set_option maxHeartbeats 4000000
open PySem PySem.Spec PyProof.Rows L2
theorem seqAsg {ta : TE} {i : Nat} {t : TS} {D : _} {σ : L2.St} {H : Hp} (h : ta σ H fun x H1 => t D (σ.set i (some x)) H1) : tSeq (tAsg ta (gName i)) t D σ H := h
theorem tcb_run {r : List V → Hp → VK → Prop} {te : TE} {σ : L2.St} {H : Hp} {Q : VK} (h : te σ H fun x H1 => r [x] H1 Q) : tCB r (tCons te tNil) σ H Q := h
theorem gName_run {i : Nat} {v : V} {σ : L2.St} {H : Hp} {Q : L2.St → Hp → Prop} (h : Q (σ.set i (some v)) H) : gName i v σ H Q := h
theorem PotAt.mono {H : Hp} {p : Addr} {n m : Nat} (h : PotAt H p n) (l : n ≤ m) : PotAt H p m := by
  obtain ⟨g, c, t, a, b, d⟩ := h
  exact ⟨g, c, t, a, b, by omega⟩
theorem PotAt.new {H : Hp} {p t : Addr} {n : Nat} {o : HO} (h : PotAt H p n) (nt : H t = none) : PotAt (upd H t o) p n := by
  obtain ⟨g, c, u, hp, r⟩ := h
  exact ⟨g, c, u, by rw [upd_ne (ne_of_none hp nt)]; exact hp, r⟩
theorem PotAt.ne {H : Hp} {p t : Addr} {n : Nat} (h : PotAt H p n) (nt : H t = none) : t ≠ p := by
  obtain ⟨g, c, u, hp, r⟩ := h
  exact fun e => by rw [e, hp] at nt; cases nt
theorem PotAt.same {H H' : Hp} {p : Addr} {n : Nat} (h : PotAt H p n) (s : Same H H') : PotAt H' p n := by
  obtain ⟨g, c, u, hp, r⟩ := h
  exact ⟨g, c, u, s _ _ hp, r⟩
theorem PotAt.at {H : Hp} {p D : Addr} {o : HO} {n : Nat} (h : PotAt H p n) (ne : D ≠ p) : PotAt (upd H D o) p n := by
  obtain ⟨g, c, u, hp, r⟩ := h
  exact ⟨g, c, u, by rw [upd_ne ne.symm]; exact hp, r⟩
section
variable {P : Program} {w : World} {K : PySem.W.Frag} {mg : Str → Option Value} {base : Heap}
abbrev NSz : List Str := ["_law_pot_here", "_law_most", "_law_way"]
theorem scSize : FnScope NSz ["_law_pot_here", "_law_most"] (defScope sSize) := ⟨rfl, rfl, rfl, by decide +kernel, rfl, by decide +kernel, by decide +kernel⟩
/-- size: two small numbers -/
def spSize : Sp := fun vs H Q _ => ∃ (p : Addr) (m : Int) (n : Nat), vs = [.ref p, .int m] ∧ 1 ≤ m ∧ m ≤ 9 ∧ PotAt H p n ∧ n < 900000 ∧
  ∀ (a b : Nat) t H', ((a : Int) ≤ m ∨ a ≤ 4) → ((b : Int) ≤ m ∨ b ≤ 4) → Fr p H H' → PotAt H' p (n + 4) → H' t = some (.tup [.int (a : Int), .int (b : Int)]) → Q (.ref t) H'
theorem ok_size {f fT : Addr} {fd fdT : FuncData} {k : Nat} (F : Fun K "_law_size" "_law_size" sSize f fd) (FT : Fun K "_law_take" "_law_take" sTake fT fdT) (bT : Binds K fdT ["_law_pot_here", "_law_many"] []) (gT : mg "_law_take" = some (.ref fT)) :
    FnOk P w K mg base CX0 (k + 2) f fd ["_law_pot_here", "_law_most"] spSize := by
  have GT : FnOk P w K mg base CX0 (k + 1) fT fdT ["_law_pot_here", "_law_many"] spTake := ok_take FT
  refine F.ok scSize (fun vs H Q E h => ?_) (fun cdv A outer s H vs Q E hr h => ?_)
  · obtain ⟨p, m, n, rfl, _⟩ := h
    rfl
  · obtain ⟨p, m, n, rfl, m0, m1, hP, hn, q⟩ := h
    have nd := scSize.nd
    refine ⟨_, pss_cons (ps_set (i := 2) nd rfl (.inl rfl) (pe_call GT hr (by rfl) gT FT.kp bT .nil pass0 (pa_cons (pv 0) (pa_cons pe_int pa_nil))))
      (pss_cons (ps_if (pt_cmpR op_eq (pv 2) pe_int (nomark _)) (pss_one (ps_ret (pe_ix ix_list (pe_lst (pa_cons (pe_tup (pa_cons pe_int (pa_cons (pe_call GT hr (by rfl) gT FT.kp bT .nil pass0 (pa_cons (pv 0) (pa_cons pe_int pa_nil))) pa_nil))) (pa_cons (pe_tup (pa_cons (pe_call GT hr (by rfl) gT FT.kp bT .nil pass0 (pa_cons (pv 0) (pa_cons pe_int pa_nil))) (pa_cons pe_int pa_nil))) pa_nil))) (pe_call GT hr (by rfl) gT FT.kp bT .nil pass0 (pa_cons (pv 0) (pa_cons pe_int pa_nil))) (fun _ _ => rfl)))) pss_nil)
      (pss_one (ps_ret (pe_tup (pa_cons (pe_op op_add pe_int (pe_call GT hr (by rfl) gT FT.kp bT .nil pass0 (pa_cons (pv 0) (pa_cons (pv 1) pa_nil)))) (pa_cons (pe_op op_add pe_int (pe_call GT hr (by rfl) gT FT.kp bT .nil pass0 (pa_cons (pv 0) (pa_cons (pv 1) pa_nil)))) pa_nil)))))), ?_⟩
    refine ⟨.ref p, rfl, p, 8, n, rfl, hP, by omega, by decide, by decide, fun kd H1 f1 P1 k0 k1 => ?_⟩
    have fin : ∀ (x y : Int) (t : Addr) (G : Hp), 0 ≤ x → (x ≤ m ∨ x ≤ 4) → 0 ≤ y → (y ≤ m ∨ y ≤ 4) → Fr p H G → PotAt G p (n + 4) → G t = some (.tup [.int x, .int y]) → Q (.ref t) G := by
      intro x y t G x0 x1 y0 y1 fr pt ht
      have z := q x.toNat y.toNat t G (by omega) (by omega) fr pt
      rw [Int.toNat_of_nonneg x0, Int.toNat_of_nonneg y0] at z
      exact z ht
    refine ⟨.int kd, rfl, rfl, _, rfl, ite2 (fun e => ?_) (fun e => ?_)⟩
    · refine ⟨.ref p, rfl, p, 5, n + 1, rfl, P1, by omega, by decide, by decide, fun x H2 f2 P2 x0 x1 => ⟨by show 2 ≤ sizeLine; decide, fun t1 n1 => ?_⟩⟩
      refine ⟨.ref p, rfl, p, 5, n + 2, rfl, P2.new n1, by omega, by decide, by decide, fun y H3 f3 P3 y0 y1 => ⟨by show 2 ≤ sizeLine; decide, fun t2 n2 => ⟨by show 2 ≤ sizeLine; decide, fun l nl => ?_⟩⟩⟩
      have P4 := (P3.new (o := .tup [.int y, .int 0]) n2).new (o := .lst [.ref t1, .ref t2]) nl
      have nt1 : t1 ≠ p := P2.ne n1
      have nt2 : t2 ≠ p := P3.ne n2
      have nl' : l ≠ p := (P3.new (o := .tup [.int y, .int 0]) n2).ne nl
      have a1 := f3 _ _ nt1 (upd_same (H := H2) (a := t1) (o := .tup [.int 0, .int x]))
      have a1' := (same_upd (o := .lst [.ref t1, .ref t2]) nl) _ _ ((same_upd (o := .tup [.int y, .int 0]) n2) _ _ a1)
      have a2' := (same_upd (o := .lst [.ref t1, .ref t2]) nl) _ _ (upd_same (H := H3) (a := t2) (o := .tup [.int y, .int 0]))
      have al := upd_same (H := upd H3 t2 (.tup [.int y, .int 0])) (a := l) (o := .lst [.ref t1, .ref t2])
      have f4 : Fr p H (upd (upd H3 t2 (.tup [.int y, .int 0])) l (.lst [.ref t1, .ref t2])) := f1.trans (f2.trans ((Fr.new n1).trans (f3.trans ((Fr.new n2).trans (Fr.new nl)))))
      refine ⟨.ref p, rfl, p, 2, n + 3, rfl, P4, by omega, by decide, by decide, fun z H5 f5 P5 z0 z1 => ?_⟩
      have al5 := f5 _ _ nl' al
      have c : z = 0 ∨ z = 1 := by omega
      rcases c with rfl | rfl
      · exact ⟨l, _, _, .ref t1, rfl, rfl, .inl (.inl al5), rfl, fin 0 x t1 H5 (by decide) (.inr (by decide)) x0 (by omega) (f4.trans f5) P5 (f5 _ _ nt1 a1')⟩
      · exact ⟨l, _, _, .ref t2, rfl, rfl, .inl (.inl al5), rfl, fin y 0 t2 H5 y0 (by omega) (by decide) (.inr (by decide)) (f4.trans f5) P5 (f5 _ _ nt2 a2')⟩
    · refine ⟨.ref p, rfl, .int m, rfl, p, m, n + 1, rfl, P1, by omega, by omega, by omega, fun x H2 f2 P2 x0 x1 => ⟨_, _, rfl, rfl, ?_⟩⟩
      refine ⟨.ref p, rfl, .int m, rfl, p, m, n + 2, rfl, P2, by omega, by omega, by omega, fun y H3 f3 P3 y0 y1 => ⟨_, _, rfl, rfl, by show 2 ≤ sizeLine; decide, fun t nt => ?_⟩⟩
      exact fin _ _ t _ (by omega) (by omega) (by omega) (by omega) (f1.trans (f2.trans (f3.trans (Fr.new nt)))) ((P3.new nt).mono (by omega)) upd_same
end
end C2

namespace C2
set_option Elab.async false
set_option linter.all false
set_option maxRecDepth 100000
set_option maxHeartbeats 4000000
open PySem PySem.Spec PyProof.Rows L2
def rTupOf (K : PySem.W.Frag) : List V → Hp → VK → Prop := fun xs H Q => ∃ p ys, xs = [.ref p] ∧ ((SqL K H p ys ∧ ∀ l, H l = none → Q (.ref l) (upd H l (.tup ys))) ∨ (SqT K H p ys ∧ Q (.ref p) H))
/-- numbers from nought to m -/
def Upto (m : Nat) (vs : List Int) : Prop := ∀ v ∈ vs, 0 ≤ v ∧ v ≤ (m : Int)
theorem Upto.snoc {m : Nat} {vs : List Int} {v : Int} (h : Upto m vs) (h0 : 0 ≤ v) (h1 : v ≤ (m : Int)) : Upto m (vs ++ [v]) := fun x hx => by
  rcases List.mem_append.mp hx with hx | hx
  · exact h x hx
  · rw [List.mem_singleton.mp hx]
    exact ⟨h0, h1⟩
theorem Upto.set {m : Nat} {vs : List Int} {v : Int} {j : Nat} (h : Upto m vs) (h0 : 0 ≤ v) (h1 : v ≤ (m : Int)) : Upto m (vs.set j v) := fun x hx => by
  rcases List.mem_or_eq_of_mem_set hx with hx | hx
  · exact h x hx
  · rw [hx]
    exact ⟨h0, h1⟩
theorem set_ints (vs : List Int) (j : Nat) (v : Int) : (vs.map V.int).set j (.int v) = (vs.set j v).map V.int := by rw [List.map_set]
/-- a comprehension over a range, each item drawn -/
theorem lc_draw {te : TE} {ta : TA} {σ : L2.St} {H : Hp} {Q : VK} {p : Addr} {sl n len m : Nat} (hs : ∀ v, wipe ((wipe σ [sl]).set sl (some v)) [sl] = wipe σ [sl]) (hlen : len ≤ 40) (hta : ∀ R : List V → Hp → Prop, R [.int (len : Int)] H → ta σ H R) (hP : PotAt H p n)
    (hte : ∀ (j : Nat) (G : Hp) (R : VK), j < len → PotAt G p (n + 3 * j) → (∀ (d : Int) G', Fr p G G' → PotAt G' p (n + 3 * (j + 1)) → 0 ≤ d → d ≤ (m : Int) → R (.int d) G') → te ((wipe σ [sl]).set sl (some (.int (j : Int)))) G R)
    (k : ∀ D vs G, Fr p H G → PotAt G p (n + 3 * len) → H D = none → D ≠ p → G D = some (.lst (vs.map V.int)) → vs.length = len → Upto m vs → Q (.ref D) G) : tLc (iRng1 ta) (gName sl) tYes te [sl] σ H Q := by
  refine hta _ ⟨(len : Int), rfl, by omega, by omega, fun D nD => ?_⟩
  have nDp : D ≠ p := hP.ne nD
  refine lc_range (lo := 0) (n := len) (fun j G => Fr p H G ∧ PotAt G p (n + 3 * j) ∧ ∃ vs : List Int, G D = some (.lst (vs.map V.int)) ∧ vs.length = j ∧ Upto m vs) ⟨Fr.new nD, hP.new nD, [], upd_same, rfl, fun v hv => by cases hv⟩ ?_ ?_
  · rintro j G hj ⟨fr, pt, vs, hD, hl, up⟩
    rw [Int.zero_add]
    refine ⟨hs _, ?_⟩
    simp only [tYes, ↓reduceIte]
    refine hte j G _ hj pt fun d G' f P d0 d1 => ⟨_, f _ _ nDp hD, ?_, ?_, P.at nDp, vs ++ [d], ?_, ?_, up.snoc d0 d1⟩
    · rw [List.length_map, hl]
      exact Nat.lt_of_lt_of_le (show j < 1000 by omega) (by decide)
    · intro b o nb e
      rw [upd_ne (ne_of_none e nD)]
      exact f _ _ nb (fr _ _ nb e)
    · rw [upd_same, List.map_append]
      rfl
    · rw [List.length_append, hl]
      rfl
  · rintro G ⟨fr, pt, vs, hD, hl, up⟩
    exact k D vs G fr pt nD nDp hD hl up
section
variable {P : Program} {w : World} {K : PySem.W.Frag} {mg : Str → Option Value} {base : Heap}
def tTk (e : TE) : TE := tCall spTake [] E0 (tCons (tVar 0) (tCons e tNil))
def tUp (c : Nat) : TE := tTk (tOp (rI0 fun i j => V.int (i + j)) (tVar c) (tC (V.int 1)))
def teP (K : PySem.W.Frag) (c : Nat) : TE := tOp (rIxL K) (tLst (tCons (tUp c) (tCons (tOp (rI CMul fun i j => V.int (i * j)) (tVar c) (tTk (tC (V.int 2)))) tNil))) (tVar 3)
theorem tk_ok {e : TE} {σ : L2.St} {G : Hp} {R : VK} {p : Addr} {m : Int} {n : Nat} (h0 : σ[0]? = some (some (.ref p))) (he : ∀ R : VK, R (.int m) G → e σ G R) (hP : PotAt G p n) (hn : n < 1000000) (m0 : 0 < m) (m1 : m < 1000)
    (k : ∀ d G', Fr p G G' → PotAt G' p (n + 1) → 0 ≤ d → d < m → R (.int d) G') : tTk e σ G R :=
  ⟨.ref p, h0, he _ ⟨p, m, n, rfl, hP, hn, m0, by omega, k⟩⟩
theorem up_ok {c : Nat} {σ : L2.St} {G : Hp} {R : VK} {p : Addr} {a n : Nat} (h0 : σ[0]? = some (some (.ref p))) (hc : σ[c]? = some (some (.int (a : Int)))) (hP : PotAt G p n) (hn : n < 1000000) (ha : a ≤ 40)
    (k : ∀ d G', Fr p G G' → PotAt G' p (n + 1) → 0 ≤ d → d ≤ (a : Int) → R (.int d) G') : tUp c σ G R :=
  tk_ok (m := (a : Int) + 1) h0 (fun R q => ⟨.int (a : Int), hc, _, 1, rfl, rfl, q⟩) hP hn (by omega) (by omega) fun d G' f P d0 d1 => k d G' f P d0 (by omega)
theorem teP_ok {c : Nat} {σ : L2.St} {G : Hp} {R : VK} {p : Addr} {a n : Nat} {way : Int} (h0 : σ[0]? = some (some (.ref p))) (hc : σ[c]? = some (some (.int (a : Int)))) (h3 : σ[3]? = some (some (.int way))) (hw : way = 0 ∨ way = 1) (hP : PotAt G p n) (hn : n < 999000) (ha : a ≤ 40)
    (k : ∀ d G', Fr p G G' → PotAt G' p (n + 3) → 0 ≤ d → d ≤ (a : Int) → R (.int d) G') : teP K c σ G R := by
  refine up_ok h0 hc hP (by omega) ha fun d G1 f1 P1 d0 d1 => ?_
  refine ⟨.int (a : Int), hc, tk_ok (m := 2) h0 (fun R q => q) P1 (by omega) (by decide) (by decide) fun x G2 f2 P2 x0 x1 => ?_⟩
  refine ⟨_, _, rfl, rfl, .inl ⟨by omega, by omega⟩, by show 2 ≤ sizeLine; decide, fun l nl => ⟨.int way, h3, ?_⟩⟩
  have f3 : Fr p G (upd G2 l (.lst [.int d, .int ((a : Int) * x)])) := f1.trans (f2.trans (Fr.new nl))
  have P3 := (P2.new (o := .lst [.int d, .int ((a : Int) * x)]) nl).mono (show n + 1 + 1 ≤ n + 3 by omega)
  rcases hw with rfl | rfl
  · exact ⟨l, _, _, .int d, rfl, rfl, .inl (.inl upd_same), rfl, k d _ f3 P3 d0 d1⟩
  · have cx : x = 0 ∨ x = 1 := by omega
    refine ⟨l, _, _, .int ((a : Int) * x), rfl, rfl, .inl (.inl upd_same), rfl, k _ _ f3 P3 ?_ ?_⟩
    · rcases cx with rfl | rfl <;> omega
    · rcases cx with rfl | rfl <;> omega
abbrev NPk : List Str := ["_law_pot_here", "_law_a", "_law_b", "_law_way", "_law_xs", "_law_ys", "_law_turn", "_law_j", "_law_i", "_law_x"]
theorem scPick : FnScope NPk ["_law_pot_here", "_law_a", "_law_b"] (defScope sPick) := ⟨rfl, rfl, rfl, by decide +kernel, rfl, by decide +kernel, by decide +kernel⟩
abbrev scSpot : Scope := { kind := .function, names := [(".0", .local), ("_law_i", .cell), ("len", .globalImplicit), ("_law_xs", .cell)], isGenerator := false, isCoroutine := false }
def ttLe : TT := tTest (tOp (rI0 fun i j => V.bl (decide (i ≤ j))) (tVar 9) (tVar 8))
def teCo (K : PySem.W.Frag) : TE := tCB (fun xs H Q => ∃ p ys, xs = [.ref p] ∧ (SqL K H p ys ∨ SqT K H p ys) ∧ Q (.int (ys.length : Nat)) H) (tCons (tLc (iList K (tVar 4)) (gName 9) ttLe (tVar 9) [9]) tNil)
/-- a pick of this size stands there -/
def PickAt (G : Hp) (t : Addr) (a b : Nat) (xs ys : List Int) : Prop := ∃ tx ty, G t = some (.tup [.ref tx, .ref ty]) ∧ G tx = some (.tup (xs.map V.int)) ∧ G ty = some (.tup (ys.map V.int)) ∧ xs.length = b ∧ ys.length = a ∧ Upto a xs ∧ Upto b ys
theorem PickAt.same {G G' : Hp} {t : Addr} {a b : Nat} {xs ys : List Int} (h : PickAt G t a b xs ys) (s : Same G G') : PickAt G' t a b xs ys := by
  obtain ⟨tx, ty, h1, h2, h3, r⟩ := h
  exact ⟨tx, ty, s _ _ h1, s _ _ h2, s _ _ h3, r⟩
def spPick : Sp := fun vs H Q _ => ∃ (p : Addr) (a b n : Nat), vs = [.ref p, .int (a : Int), .int (b : Int)] ∧ a ≤ 40 ∧ b ≤ 40 ∧ PotAt H p n ∧ n < 900000 ∧
  ∀ t xs ys H', Fr p H H' → PotAt H' p (n + 300) → PickAt H' t a b xs ys → Q (.ref t) H'
def tTups (K : PySem.W.Frag) : TE := tTup (tCons (tCB (rTupOf K) (tCons (tVar 4) tNil)) (tCons (tCB (rTupOf K) (tCons (tVar 5) tNil)) tNil))
theorem tups_ok {σ : L2.St} {G : Hp} {R : VK} {lx ly : Addr} {a b : Nat} {xs ys : List Int} (h4 : σ[4]? = some (some (.ref lx))) (h5 : σ[5]? = some (some (.ref ly))) (hx : G lx = some (.lst (xs.map V.int))) (hy : G ly = some (.lst (ys.map V.int)))
    (l1 : xs.length = b) (l2 : ys.length = a) (u1 : Upto a xs) (u2 : Upto b ys) (k : ∀ t G', Same G G' → PickAt G' t a b xs ys → R (.ref t) G') : tTups K σ G R := by
  refine ⟨.ref lx, h4, lx, _, rfl, .inl ⟨.inl (.inl hx), fun t1 n1 => ?_⟩⟩
  have s1 := same_upd (o := .tup (xs.map V.int)) n1
  refine ⟨.ref ly, h5, ly, _, rfl, .inl ⟨.inl (.inl (s1 _ _ hy)), fun t2 n2 => ⟨by show 2 ≤ sizeLine; decide, fun t nt => ?_⟩⟩⟩
  have s2 := same_upd (o := .tup (ys.map V.int)) n2
  have s3 := same_upd (o := .tup [.ref t1, .ref t2]) nt
  exact k t _ (s1.trans (s2.trans s3)) ⟨t1, t2, upd_same, s3 _ _ (s2 _ _ upd_same), s3 _ _ upd_same, l1, l2, u1, u2⟩
/-! ### letters put at drawn places -/
def tMany : TA := tCons (tOp (rI CMul fun i j => V.int (i * j)) (tOp (rI0 fun i j => V.int (i - j)) (tOp (rI CDiv fun i j => V.int (i / j)) (tVar 3) (tC (V.int 2))) (tC (V.int 1))) (tOp (rI0 fun i j => V.int (i + j)) (tC (V.int 1)) (tTk (tC (V.int 2))))) tNil
def tPut (c s d : Nat) : TS := tAsg (tUp c) (gSub (tVar s) (tTk (tVar d)) rSetL)
def tElse : TS := tIfS (tTest (tOp (rI0 fun i j => V.bl (decide (j < i))) (tVar 1) (tC (V.int 0)))) (tPut 2 5 1) tNext
def tTurn : TS := tIfS (tAnd (tTest (tOp (rI0 fun i j => V.bl (decide (j < i))) (tVar 2) (tC (V.int 0)))) (tTest (tOp rEq (tTk (tC (V.int 2))) (tC (V.int 0))))) (tPut 1 4 2) tElse
def tRest (K : PySem.W.Frag) : TS := tSeq (tFor (iRng1 tMany) (gName 6) tTurn) (tRet (tTups K))
theorem put_ok {c sl d : Nat} {σ : L2.St} {G : Hp} {D : Ends} {p l : Addr} {a b n : Nat} {vs : List Int} (h0 : σ[0]? = some (some (.ref p))) (hc : σ[c]? = some (some (.int (a : Int)))) (hs : σ[sl]? = some (some (.ref l))) (hd : σ[d]? = some (some (.int (b : Int))))
    (hl : G l = some (.lst (vs.map V.int))) (lv : vs.length = b) (b0 : 0 < b) (hb : b ≤ 40) (ha : a ≤ 40) (np : l ≠ p) (hP : PotAt G p n) (hn : n < 999000) (up : Upto a vs)
    (k : ∀ ws G', G' l = some (.lst (ws.map V.int)) → ws.length = b → Upto a ws → (∀ e o, e ≠ p → e ≠ l → G e = some o → G' e = some o) → PotAt G' p (n + 2) → D.nx σ G') : tPut c sl d D σ G := by
  refine up_ok h0 hc hP (by omega) ha fun v G1 f1 P1 v0 v1 => ?_
  refine ⟨.ref l, hs, tk_ok (m := (b : Int)) h0 (fun R q => ⟨.int (b : Int), hd, q⟩) P1 (by omega) (by omega) (by omega) fun j G2 f2 P2 j0 j1 => ?_⟩
  have h2 := f2 _ _ np (f1 _ _ np hl)
  have ej : j = ((j.toNat : Nat) : Int) := by omega
  refine ⟨l, vs.map V.int, j, j.toNat, rfl, rfl, h2, ?_, ?_⟩
  · rw [List.length_map, lv]
    unfold ixN
    rw [if_pos j0, if_pos j1]
  · refine k (vs.set j.toNat v) _ ?_ (by rw [List.length_set]; exact lv) (up.set v0 v1) (fun e o ne nl he => ?_) (P2.at np)
    · rw [upd_same, set_ints]
    · rw [upd_ne nl]
      exact f2 _ _ ne (f1 _ _ ne he)
theorem rest_ok {D : Ends} {H0 G : Hp} {p lx ly : Addr} {a b n : Nat} {way : Int} {xs ys : List Int} {y6 y7 y8 y9 : Option V} (w0 : 2 ≤ way) (w1 : way < 6) (ha : a ≤ 40) (hb : b ≤ 40) (fr : Fr p H0 G) (hP : PotAt G p n) (hn : n < 990000)
    (nx : H0 lx = none) (ny : H0 ly = none) (npx : lx ≠ p) (npy : ly ≠ p) (nxy : lx ≠ ly) (hx : G lx = some (.lst (xs.map V.int))) (hy : G ly = some (.lst (ys.map V.int))) (l1 : xs.length = b) (l2 : ys.length = a) (u1 : Upto a xs) (u2 : Upto b ys)
    (k : ∀ t xs ys G', Fr p H0 G' → PotAt G' p (n + 10) → PickAt G' t a b xs ys → D.rt (.ref t) G') :
    tRest K D [some (.ref p), some (.int (a : Int)), some (.int (b : Int)), some (.int way), some (.ref lx), some (.ref ly), y6, y7, y8, y9] G := by
  have hw : way / 2 = 1 ∨ way / 2 = 2 := by omega
  refine ⟨.int way, rfl, way, 2, rfl, rfl, ⟨by decide, by decide⟩, _, 1, rfl, rfl, tk_ok (m := 2) rfl (fun R q => q) hP (by omega) (by decide) (by decide) fun d G1 f1 P1 d0 d1 => ⟨1, d, rfl, rfl, _, _, rfl, rfl, .inl ⟨by omega, by omega⟩, ?_⟩⟩
  have hm : 0 ≤ (way / 2 - 1) * (1 + d) ∧ (way / 2 - 1) * (1 + d) ≤ 2 := by rcases hw with e | e <;> rw [e] <;> omega
  obtain ⟨mm, em, hm⟩ : ∃ mm, (way / 2 - 1) * (1 + d) = mm ∧ 0 ≤ mm ∧ mm ≤ 2 := ⟨_, rfl, hm⟩
  refine ⟨mm, congrArg (fun z => [V.int z]) em, by omega, by omega, ?_⟩
  have inv0 : Fr p H0 G1 := fr.trans f1
  refine for_range (lo := 0) (n := mm.toNat) (fun i σ G' => Fr p H0 G' ∧ PotAt G' p (n + 1 + 3 * i) ∧ ∃ xs ys : List Int, G' lx = some (.lst (xs.map V.int)) ∧ G' ly = some (.lst (ys.map V.int)) ∧ xs.length = b ∧ ys.length = a ∧ Upto a xs ∧ Upto b ys ∧
    ∃ y6, σ = [some (.ref p), some (.int (a : Int)), some (.int (b : Int)), some (.int way), some (.ref lx), some (.ref ly), y6, y7, y8, y9]) ⟨inv0, P1, xs, ys, f1 _ _ npx hx, f1 _ _ npy hy, l1, l2, u1, u2, _, rfl⟩ ?_ ?_
  · rintro i σ G2 hi ⟨fr2, P2, xs2, ys2, hx2, hy2, l1, l2, u1, u2, y6, rfl⟩
    rw [Int.zero_add]
    have i2 : i < 2 := by omega
    have other : ∀ G3, Fr p H0 G3 → PotAt G3 p (n + 1 + 3 * i + 1) → G3 lx = some (.lst (xs2.map V.int)) → G3 ly = some (.lst (ys2.map V.int)) → ∀ E : Ends, (∀ σ G', (Fr p H0 G' ∧ PotAt G' p (n + 1 + 3 * (i + 1)) ∧ ∃ xs ys : List Int, G' lx = some (.lst (xs.map V.int)) ∧ G' ly = some (.lst (ys.map V.int)) ∧ xs.length = b ∧ ys.length = a ∧ Upto a xs ∧ Upto b ys ∧
        ∃ y6, σ = [some (.ref p), some (.int (a : Int)), some (.int (b : Int)), some (.int way), some (.ref lx), some (.ref ly), y6, y7, y8, y9]) → E.nx σ G') →
        tElse E [some (.ref p), some (.int (a : Int)), some (.int (b : Int)), some (.int way), some (.ref lx), some (.ref ly), some (.int (i : Int)), y7, y8, y9] G3 := by
      intro G3 fr3 P3 hx3 hy3 E fin
      refine ⟨.int (a : Int), rfl, _, _, rfl, rfl, _, rfl, ite2 (fun e => ?_) (fun e => ?_)⟩
      · have a0 : 0 < a := by
          have := of_decide_eq_true e
          omega
        refine put_ok (a := b) (b := a) (l := ly) (vs := ys2) rfl rfl rfl rfl hy3 l2 a0 ha hb npy P3 (by omega) u2 fun ws G4 h4 lw uw kp P4 => fin _ _ ⟨fun e o ne he => ?_, P4.mono (by omega), xs2, ws, kp _ _ npx nxy hx3, h4, l1, lw, u1, uw, _, rfl⟩
        exact kp e o ne (ne_of_none he ny) (fr3 e o ne he)
      · exact fin _ _ ⟨fr3, P3.mono (by omega), xs2, ys2, hx3, hy3, l1, l2, u1, u2, _, rfl⟩
    refine ⟨.int (b : Int), rfl, _, _, rfl, rfl, _, rfl, ite2 (fun e => ?_) (fun e => ?_)⟩
    · have b0 : 0 < b := by
        have := of_decide_eq_true e
        omega
      refine tk_ok (m := 2) rfl (fun R q => q) P2 (by omega) (by decide) (by decide) fun d G3 f3 P3 d0 d1 => ⟨rfl, _, rfl, ite2 (fun e2 => ?_) (fun e2 => ?_)⟩
      · refine put_ok (a := a) (b := b) (l := lx) (vs := xs2) rfl rfl rfl rfl (f3 _ _ npx hx2) l1 b0 hb ha npx P3 (by omega) u1 fun ws G4 h4 lw uw kp P4 => ⟨fun e o ne he => ?_, P4.mono (by omega), ws, ys2, h4, kp _ _ npy nxy.symm (f3 _ _ npy hy2), lw, l2, uw, u2, _, rfl⟩
        exact kp e o ne (ne_of_none he nx) (f3 _ _ ne (fr2 e o ne he))
      · exact other G3 (fr2.trans f3) P3 (f3 _ _ npx hx2) (f3 _ _ npy hy2) _ fun _ _ h => h
    · exact other G2 fr2 (P2.mono (by omega)) hx2 hy2 _ fun _ _ h => h
  · rintro σ G2 ⟨fr2, P2, xs2, ys2, hx2, hy2, l1, l2, u1, u2, y6, rfl⟩
    exact tups_ok rfl rfl hx2 hy2 l1 l2 u1 u2 fun t G3 s3 pk => k t xs2 ys2 G3 (fr2.trans (Fr.same s3)) ((P2.same s3).mono (by omega)) pk
end
end C2

namespace C2
set_option Elab.async false
set_option linter.all false
set_option maxRecDepth 100000
set_option maxHeartbeats 4000000
open PySem PySem.Spec PyProof.Rows L2
section
variable {P : Program} {w : World} {K : PySem.W.Frag} {mg : Str → Option Value} {base : Heap}
/-- how many are at most so great -/
def upCount (xs : List Int) (i : Nat) : Int := ((xs.filter fun x => decide (x ≤ (i : Int))).length : Nat)
theorem upCount_le {b : Nat} {xs : List Int} (h : xs.length = b) (i : Nat) : 0 ≤ upCount xs i ∧ upCount xs i ≤ (b : Int) := by
  unfold upCount
  have := List.length_filter_le (fun x => decide (x ≤ (i : Int))) xs
  omega
theorem ok_pick {f fT : Addr} {fd fdT : FuncData} {k : Nat} (F : Fun K "_law_pick" "_law_pick" sPick f fd) (FT : Fun K "_law_take" "_law_take" sTake fT fdT) (bT : Binds K fdT ["_law_pot_here", "_law_many"] []) (gT : mg "_law_take" = some (.ref fT))
    (mr : mg "range" = none) (mt : mg "tuple" = none) (ms : mg "sorted" = none) (ml : mg "len" = none) : FnOk P w K mg base CX0 (k + 2) f fd ["_law_pot_here", "_law_a", "_law_b"] spPick := by
  have GT : FnOk P w K mg base CX0 (k + 1) fT fdT ["_law_pot_here", "_law_many"] spTake := ok_take FT
  refine F.ok scPick (fun vs H Q E h => ?_) (fun cdv A outer s H vs Q E hr h => ?_)
  · obtain ⟨p, a, b, n, rfl, _⟩ := h
    rfl
  · obtain ⟨p, a, b, n, rfl, ha, hb, hP, hn, q⟩ := h
    have nd := scPick.nd
    refine ⟨_, pss_cons (ps_set (i := 3) nd rfl (.inr rfl) (pe_call GT hr (by rfl) gT FT.kp bT .nil pass0 (pa_cons (pv 0) (pa_cons pe_int pa_nil))))
      (pss_cons (ps_if (pt_cmpR op_lt (pv 3) pe_int (nomark _)) (pss_cons (ps_set (i := 4) nd rfl (.inr rfl) (pe_lc (own := [("_law_j", 7)]) (g := gName 7) (tt := tYes) (te := teP K 1) rfl nd (pi_range1 (by rfl) mr (pa_cons (pv 2) pa_nil)) (blkOk_by (own := [("_law_j", 7)]) (N := NPk) (sc := defScope sPick) (by decide +kernel)) (fun _ _ _ _ _ => pg_name (i := 7) nd rfl (.inl rfl)) (fun _ _ _ _ _ => pts_nil) (fun _ _ _ _ _ => (pe_ix ix_list (pe_lst (pa_cons (pe_call GT hr (by rfl) gT FT.kp bT .nil pass0 (pa_cons (pv 0) (pa_cons (pe_op op_add (pv 1) pe_int) pa_nil))) (pa_cons (pe_op op_mul (pv 1) (pe_call GT hr (by rfl) gT FT.kp bT .nil pass0 (pa_cons (pv 0) (pa_cons pe_int pa_nil)))) pa_nil))) (pv 3) (fun _ _ => rfl)))))
      (pss_one (ps_ret (pe_tup (pa_cons (pe_callTy call_tuple_of (by rfl) mt (by decide +kernel) (pa_cons (pv 4) pa_nil)) (pa_cons (pe_callTy call_tuple_of (by rfl) mt (by decide +kernel) (pa_cons (pe_lc (own := [("_law_i", 8)]) (g := gName 8) (tt := tYes) (te := teP K 2) rfl nd (pi_range1 (by rfl) mr (pa_cons (pv 1) pa_nil)) (blkOk_by (own := [("_law_i", 8)]) (N := NPk) (sc := defScope sPick) (by decide +kernel)) (fun _ _ _ _ _ => pg_name (i := 8) nd rfl (.inl rfl)) (fun _ _ _ _ _ => pts_nil) (fun _ _ _ _ _ => (pe_ix ix_list (pe_lst (pa_cons (pe_call GT hr (by rfl) gT FT.kp bT .nil pass0 (pa_cons (pv 0) (pa_cons (pe_op op_add (pv 2) pe_int) pa_nil))) (pa_cons (pe_op op_mul (pv 2) (pe_call GT hr (by rfl) gT FT.kp bT .nil pass0 (pa_cons (pv 0) (pa_cons pe_int pa_nil)))) pa_nil))) (pv 3) (fun _ _ => rfl)))) pa_nil)) pa_nil)))))) pss_nil)
      (pss_cons (ps_set (i := 4) nd rfl (.inr rfl) (pe_callB cr_sorted (by rfl) ms (by decide +kernel) (pa_cons (pe_lc (own := [("_law_j", 7)]) (g := gName 7) (tt := tYes) (te := tUp 1) rfl nd (pi_range1 (by rfl) mr (pa_cons (pv 2) pa_nil)) (blkOk_by (own := [("_law_j", 7)]) (N := NPk) (sc := defScope sPick) (by decide +kernel)) (fun _ _ _ _ _ => pg_name (i := 7) nd rfl (.inl rfl)) (fun _ _ _ _ _ => pts_nil) (fun _ _ _ _ _ => (pe_call GT hr (by rfl) gT FT.kp bT .nil pass0 (pa_cons (pv 0) (pa_cons (pe_op op_add (pv 1) pe_int) pa_nil))))) pa_nil)))
      (pss_cons (ps_setLc (i := 5) (own := [("_law_i", 8)]) (g := gName 8) (tt := tYes) (te := teCo K) rfl nd rfl rfl (sw_true rfl rfl rfl (by decide +kernel)) (pi_range1 (by rfl) mr (pa_cons (pv 1) pa_nil)) (blkOk_by (own := [("_law_i", 8)]) (N := NPk) (sc := defScope sPick) (by decide +kernel)) (fun _ _ _ _ _ => (pg_name (i := 8) nd rfl (.inr rfl))) (fun _ _ _ _ _ => pts_nil) (fun _ _ _ _ _ => (pe_callB call_len_seq (by rfl) ml PySem.boot_len (pa_cons (pe_lc (own := [("_law_x", 9)]) (g := gName 9) (tt := ttLe) (te := tVar 9) rfl nd (pi_list (pv 4)) (blkOk_by (own := [("_law_x", 9)]) (N := NPk) (sc := scSpot) (by decide +kernel)) (fun _ _ _ _ _ => pg_name (i := 9) nd rfl (.inl rfl)) (fun _ _ _ _ _ => pts_one (pt_cmpR op_le (pv 9) (pv 8) (nomark _))) (fun _ _ _ _ _ => (pv 9))) pa_nil))))
      (pss_cons (ps_if (pt_cmpR op_eq (pe_op op_mod (pv 3) pe_int) pe_int (nomark _)) (pss_one (ps_asg (pe_tup (pa_cons (pe_lc (own := [("_law_x", 9)]) (g := gName 9) (tt := tYes) (te := tOp (rI0 fun i j => V.int (i - j)) (tVar 1) (tVar 9)) rfl nd (pi_list (pv 4)) (blkOk_by (own := [("_law_x", 9)]) (N := NPk) (sc := defScope sPick) (by decide +kernel)) (fun _ _ _ _ _ => pg_name (i := 9) nd rfl (.inl rfl)) (fun _ _ _ _ _ => pts_nil) (fun _ _ _ _ _ => (pe_op op_sub (pv 1) (pv 9)))) (pa_cons (pe_revL (pv 5)) pa_nil))) (pg_tup rfl (pgs_cons (pg_name (i := 4) nd rfl (.inr rfl)) (pgs_cons (pg_name (i := 5) nd rfl (.inl rfl)) pgs_nil))))) pss_nil)
      (pss_cons (ps_for PassesOwn.never rfl (pi_range1 (by rfl) mr (pa_cons (pe_op op_mul (pe_op op_sub (pe_op op_fdiv (pv 3) pe_int) pe_int) (pe_op op_add pe_int (pe_call GT hr (by rfl) gT FT.kp bT .nil pass0 (pa_cons (pv 0) (pa_cons pe_int pa_nil))))) pa_nil)) (pg_name (i := 6) nd rfl (.inl rfl)) (pss_one (ps_if (PW.pt (pw_and (pt_cmpR op_gt (pv 2) pe_int (nomark _)) (pw_and1 (pt_cmpR op_eq (pe_call GT hr (by rfl) gT FT.kp bT .nil pass0 (pa_cons (pv 0) (pa_cons pe_int pa_nil))) pe_int (nomark _))))) (pss_one (ps_asg (pe_call GT hr (by rfl) gT FT.kp bT .nil pass0 (pa_cons (pv 0) (pa_cons (pe_op op_add (pv 1) pe_int) pa_nil))) (pg_sub (pv 4) (pe_call GT hr (by rfl) gT FT.kp bT .nil pass0 (pa_cons (pv 0) (pa_cons (pv 2) pa_nil))) set_list))) (pss_one (ps_if (pt_cmpR op_gt (pv 1) pe_int (nomark _)) (pss_one (ps_asg (pe_call GT hr (by rfl) gT FT.kp bT .nil pass0 (pa_cons (pv 0) (pa_cons (pe_op op_add (pv 2) pe_int) pa_nil))) (pg_sub (pv 5) (pe_call GT hr (by rfl) gT FT.kp bT .nil pass0 (pa_cons (pv 0) (pa_cons (pv 1) pa_nil))) set_list))) pss_nil)))))
      (pss_one (ps_ret (pe_tup (pa_cons (pe_callTy call_tuple_of (by rfl) mt (by decide +kernel) (pa_cons (pv 4) pa_nil)) (pa_cons (pe_callTy call_tuple_of (by rfl) mt (by decide +kernel) (pa_cons (pv 5) pa_nil)) pa_nil)))))))))), ?_⟩
    refine ⟨.ref p, rfl, p, 6, n, rfl, hP, by omega, by decide, by decide, fun way H1 f1 P1 w0 w1 => ?_⟩
    refine ⟨.int way, rfl, _, _, rfl, rfl, _, rfl, ite2 (fun e => ?_) (fun e => ?_)⟩
    · have w2 : way = 0 ∨ way = 1 := by
        have := of_decide_eq_true e
        omega
      refine seqAsg (lc_draw (te := teP K 1) (sl := 7) (len := b) (m := a) (n := n + 1) (p := p) (fun v => rfl) hb (fun R h => ⟨.int (b : Int), rfl, h⟩) P1 (fun j G R hj pt kk => teP_ok (a := a) (n := n + 1 + 3 * j) (way := way) rfl rfl rfl w2 pt (by omega) ha fun d G' f P d0 d1 => kk d G' f (P.mono (by omega)) d0 d1) fun D vs G2 f2 P2 nD nDp hD l1 u1 => ?_)
      refine ⟨.ref D, rfl, D, _, rfl, .inl ⟨.inl (.inl hD), fun t1 n1 => ?_⟩⟩
      have s1 := same_upd (o := .tup (vs.map V.int)) n1
      refine tcb_run (lc_draw (te := teP K 2) (sl := 8) (len := a) (m := b) (n := n + 1 + 3 * b) (p := p) (fun v => rfl) ha (fun R h => ⟨.int (a : Int), rfl, h⟩) (P2.same s1) (fun j G R hj pt kk => teP_ok (a := b) (n := n + 1 + 3 * b + 3 * j) (way := way) rfl rfl rfl w2 pt (by omega) hb fun d G' f P d0 d1 => kk d G' f (P.mono (by omega)) d0 d1) fun D2 ws G3 f3 P3 nD2 nDp2 hD2 l2 u2 => ?_)
      refine ⟨D2, _, rfl, .inl ⟨.inl (.inl hD2), fun t2 n2 => ⟨by show 2 ≤ sizeLine; decide, fun t nt => ?_⟩⟩⟩
      have s2 := same_upd (o := .tup (ws.map V.int)) n2
      have s3 := same_upd (o := .tup [.ref t1, .ref t2]) nt
      have nt1 : t1 ≠ p := P2.ne n1
      refine q t vs ws _ (f1.trans (f2.trans ((Fr.same s1).trans (f3.trans (Fr.same (s2.trans s3)))))) (((P3.same s2).same s3).mono (by omega)) ⟨t1, t2, upd_same, s3 _ _ (s2 _ _ (f3 _ _ nt1 upd_same)), s3 _ _ upd_same, l1, l2, u1, u2⟩
    · have w2 : 2 ≤ way := by
        by_cases c : way < 2
        · exact absurd (decide_eq_true c) e
        · omega
      show tSeq (tAsg (tCB (rSorted K) (tCons (tLc (iRng1 (tCons (tVar 2) tNil)) (gName 7) tYes (tUp 1) [7]) tNil)) (gName 4)) _ _ _ _
      refine seqAsg (tcb_run (lc_draw (te := tUp 1) (sl := 7) (len := b) (m := a) (n := n + 1) (p := p) (fun v => rfl) hb (fun R h => ⟨.int (b : Int), rfl, h⟩) P1 (fun j G R hj pt kk => up_ok (a := a) (n := n + 1 + 3 * j) rfl rfl pt (by omega) ha fun d G' f P d0 d1 => kk d G' f (P.mono (by omega)) d0 d1) fun D vs G2 f2 P2 nD nDp hD l1 u1 => ?_))
      refine ⟨D, vs, rfl, .inl (.inl hD), by omega, fun xs lx pm srt nlx => ?_⟩
      have sx := same_upd (o := .lst (xs.map V.int)) nlx
      have nlxp : lx ≠ p := P2.ne nlx
      have l1' : xs.length = b := by rw [pm.length_eq, l1]
      have u1' : Upto a xs := fun v hv => u1 v (pm.mem_iff.mp hv)
      have P3 := P2.new (o := .lst (xs.map V.int)) nlx
      have f3 : Fr p H (upd G2 lx (.lst (xs.map V.int))) := f1.trans (f2.trans (Fr.same sx))
      have hx3 : (upd G2 lx (.lst (xs.map V.int))) lx = some (.lst (xs.map V.int)) := upd_same
      generalize upd G2 lx (.lst (xs.map V.int)) = G3 at P3 f3 hx3
      -- the counts
      refine ⟨.int (a : Int), rfl, (a : Int), rfl, by omega, by omega, fun ly nly => ?_⟩
      refine lc_range (lo := 0) (n := a) (fun i G => Same G3 G ∧ G ly = some (.lst (((List.range i).map fun i => upCount xs i).map V.int))) ⟨same_upd nly, upd_same⟩ ?_ ?_
      · rintro i G hi ⟨sm, hly⟩
        rw [Int.zero_add]
        have hxG := sm _ _ hx3
        refine ⟨rfl, .ref lx, rfl, lx, rfl, ⟨_, .inl (.inl hxG)⟩, fun D2 nD2 => ?_⟩
        refine lc_list (xs := xs.map V.int) (fun m G' => Same G G' ∧ G' D2 = some (.lst (((xs.take m).filter fun x => decide (x ≤ (i : Int))).map V.int))) ⟨same_upd nD2, upd_same⟩ (fun m G' _ h => .inl (.inl (h.1 _ _ hxG))) ?_ ?_
        · rintro m x G' hx ⟨s2, h2⟩
          have hm : m < xs.length := by
            have := (List.getElem?_eq_some_iff.mp hx).1
            rw [List.length_map] at this
            exact this
          have ex : x = .int xs[m] := by
            rw [List.getElem?_map, List.getElem?_eq_getElem hm] at hx
            exact (Option.some.inj hx).symm
          subst ex
          have tk : (xs.take (m + 1)).filter (fun x => decide (x ≤ (i : Int))) = (xs.take m).filter (fun x => decide (x ≤ (i : Int))) ++ if xs[m] ≤ (i : Int) then [xs[m]] else [] := by
            rw [List.take_add_one, List.getElem?_eq_getElem hm, List.filter_append]
            congr 1
            show List.filter _ [xs[m]] = _
            by_cases c : xs[m] ≤ (i : Int)
            · simp [c]
            · simp [c]
          refine ⟨rfl, .int xs[m], rfl, .int (i : Int), rfl, _, _, rfl, rfl, _, rfl, ite2 (fun c => ?_) (fun c => ?_)⟩
          · have c' := of_decide_eq_true c
            refine ⟨.int xs[m], rfl, _, h2, ?_, ?_, ?_⟩
            · rw [List.length_map]
              refine Nat.lt_of_le_of_lt (List.length_filter_le _ _) (Nat.lt_of_lt_of_le (show (xs.take m).length < 1000 by rw [List.length_take]; omega) (by decide))
            · intro b' o e'
              rw [upd_ne (ne_of_none e' nD2)]
              exact s2 _ _ e'
            · rw [upd_same, tk, if_pos c', List.map_append]
              rfl
          · have c' : ¬ xs[m] ≤ (i : Int) := fun z => c (decide_eq_true z)
            rw [tk, if_neg c', List.append_nil]
            exact ⟨s2, h2⟩
        · rintro G' ⟨s2, h2⟩
          rw [List.take_of_length_le (by rw [List.length_map]; exact Nat.le_refl _)] at h2
          refine ⟨D2, _, rfl, .inl (.inl (.inl h2)), _, s2 _ _ hly, ?_, ?_, ?_⟩
          · rw [List.length_map, List.length_map, List.length_range]
            exact Nat.lt_of_lt_of_le (show i < 1000 by omega) (by decide)
          · intro b' o e'
            rw [upd_ne (ne_of_none e' nly)]
            exact s2 _ _ (sm _ _ e')
          · rw [upd_same, List.range_succ, List.map_append, List.map_append, List.length_map]
            rfl
      · rintro G4 ⟨s4, h4⟩
        have hx4 := s4 _ _ hx3
        have P4 := P3.same s4
        have f4 := f3.trans (Fr.same s4)
        have nlyp : ly ≠ p := P3.ne nly
        have nxy : lx ≠ ly := ne_of_none hx3 nly
        have lys : ((List.range a).map fun i => upCount xs i).length = a := by rw [List.length_map, List.length_range]
        have uys : Upto b ((List.range a).map fun i => upCount xs i) := fun v hv => by
          obtain ⟨i, _, rfl⟩ := List.mem_map.mp hv
          exact upCount_le l1' i
        generalize (List.range a).map (fun i => upCount xs i) = ys at h4 lys uys
        have nH : ∀ z, z ≠ p → G3 z = none → H z = none := fun z nz h => f3.free nz h
        have nHx : H lx = none := (f1.trans f2).free nlxp nlx
        have nHy : H ly = none := nH ly nlyp nly
        refine gName_run ?_
        refine ⟨.int way, rfl, _, _, rfl, rfl, (by show (0 : Int) < 2; decide), rfl, _, rfl, ite2 (fun c => ?_) (fun c => ?_)⟩
        · refine ⟨.ref lx, rfl, lx, rfl, ⟨_, .inl (.inl hx4)⟩, fun D3 nD3 => ?_⟩
          refine lc_list (xs := xs.map V.int) (fun m G' => Same G4 G' ∧ G' D3 = some (.lst (((xs.take m).map fun x => (a : Int) - x).map V.int))) ⟨same_upd nD3, upd_same⟩ (fun m G' _ h => .inl (.inl (h.1 _ _ hx4))) ?_ ?_
          · rintro m x G' hx ⟨s5, h5⟩
            have hm : m < xs.length := by
              have := (List.getElem?_eq_some_iff.mp hx).1
              rw [List.length_map] at this
              exact this
            have ex : x = .int xs[m] := by
              rw [List.getElem?_map, List.getElem?_eq_getElem hm] at hx
              exact (Option.some.inj hx).symm
            subst ex
            refine ⟨rfl, .int (a : Int), rfl, .int xs[m], rfl, _, _, rfl, rfl, _, h5, ?_, ?_, ?_⟩
            · rw [List.length_map, List.length_map, List.length_take]
              exact Nat.lt_of_le_of_lt (Nat.min_le_left _ _) (Nat.lt_of_lt_of_le (show m < 1000 by omega) (by decide))
            · intro b' o e'
              rw [upd_ne (ne_of_none e' nD3)]
              exact s5 _ _ e'
            · rw [upd_same, List.take_add_one, List.getElem?_eq_getElem hm, List.map_append, List.map_append]
              rfl
          · rintro G5 ⟨s5, h5⟩
            rw [List.take_of_length_le (by rw [List.length_map]; exact Nat.le_refl _)] at h5
            have h4' := s5 _ _ h4
            refine ⟨.ref ly, rfl, ly, _, rfl, .inl (.inl h4'), fun D4 nD4 => ⟨by show 2 ≤ sizeLine; decide, fun T nT => ?_⟩⟩
            have s6 := same_upd (o := .lst (ys.map V.int).reverse) nD4
            have s7 := same_upd (o := .tup [.ref D3, .ref D4]) nT
            refine ⟨T, _, rfl, .inl (.inl upd_same), rfl, _, _, rfl, _, _, rfl, rfl, ?_⟩
            have s57 := s5.trans (s6.trans s7)
            have nD3p : D3 ≠ p := P4.ne nD3
            have nD4p : D4 ≠ p := (P4.same s5).ne nD4
            refine rest_ok (H0 := H) (n := n + 1 + 3 * b) (xs := xs.map fun x => (a : Int) - x) (ys := ys.reverse) w2 w1 ha hb (f4.trans (Fr.same s57)) (P4.same s57) (by omega) ((f4.free nD3p) nD3) ((f4.trans (Fr.same s5)).free nD4p nD4) nD3p nD4p (ne_of_none h5 nD4) (s7 _ _ (s6 _ _ h5)) ?_ ?_ ?_ ?_ ?_ fun t xs' ys' G' fr' pt' pk => q t xs' ys' G' fr' (pt'.mono (by omega)) pk
            · rw [← List.map_reverse] at s7 ⊢
              exact s7 _ _ (by rw [upd_same, List.map_reverse])
            · rw [List.length_map]; exact l1'
            · rw [List.length_reverse]; exact lys
            · intro v hv
              obtain ⟨x, hx, rfl⟩ := List.mem_map.mp hv
              have := u1' x hx
              omega
            · intro v hv
              exact uys v (List.mem_reverse.mp hv)
        · exact rest_ok (H0 := H) (n := n + 1 + 3 * b) w2 w1 ha hb f4 P4 (by omega) nHx nHy nlxp nlyp nxy hx4 h4 l1' lys u1' uys fun t xs' ys' G' fr' pt' pk => q t xs' ys' G' fr' (pt'.mono (by omega)) pk
end
end C2

namespace C2
set_option Elab.async false
set_option linter.all false
set_option maxRecDepth 100000
set_option maxHeartbeats 4000000
open PySem PySem.Spec PyProof.Rows L2
/-! ### zip of a list and a tuple -/
def ItLT (K : PySem.W.Frag) (a b : Addr) : It :=
  ⟨fun j G => ∃ (us vs : List V) (u v : V), SqL K G a us ∧ SqT K G b vs ∧ us[j]? = some u ∧ vs[j]? = some v,
    fun j G r G' => ∃ T u v, r = .ref T ∧ G T = none ∧ G' = upd G T (.tup [u, v]) ∧ (∀ us, SqL K G a us → us[j]? = some u) ∧ ∀ vs, SqT K G b vs → vs[j]? = some v,
    fun j G => ∃ us vs : List V, SqL K G a us ∧ SqT K G b vs ∧ j ≤ us.length ∧ j ≤ vs.length ∧ (j = us.length ∨ j = vs.length)⟩
def tnLT (a b z TI TO i1 i2 : Addr) (j : Nat) (h : Heap) : Prop :=
  IsZip h z TI TO .none ∧ IsTupOf2 h TI (.ref i1) (.ref i2) ∧ (∃ u v, IsTupOf2 h TO u v) ∧ h.IsListIter i1 a j ∧ h.IsTupleIter i2 b j
theorem in5 {c z TI TO i1 i2 : Addr} (h : c ∈ [z, TI, TO, i1, i2]) : c = z ∨ c = TI ∨ c = TO ∨ c = i1 ∨ c = i2 := by simpa using h
theorem turnLT {P : Program} {w : World} {K : PySem.W.Frag} {elts : List Expr} {kk : Nat} {tpos : Pos} {a b z TI TO i1 i2 : Addr} (S : ZipSep2 z TI TO i1 i2 [i1, a] [i2, b]) :
    Turn P w K (.Tuple elts kk tpos) (ItLT K a b) [z, TI, TO, i1, i2] z (tnLT a b z TI TO i1 i2) where
  mem := by simp
  obj := by
    rintro j h ⟨q1, q2, ⟨u, v, q3⟩, ⟨o4, q4, _, d4⟩, ⟨o5, q5, _, d5⟩⟩ c hc
    rcases in5 hc with rfl | rfl | rfl | rfl | rfl
    · exact ⟨_, q1, fun _ e => nomatch e⟩
    · exact ⟨_, q2, fun _ e => nomatch e⟩
    · exact ⟨_, q3, fun _ e => nomatch e⟩
    · exact ⟨o4, q4, fun _ e => by rw [d4] at e; cases e⟩
    · exact ⟨o5, q5, fun _ e => by rw [d5] at e; cases e⟩
  keep := by
    rintro j h h' ⟨q1, q2, ⟨u, v, q3⟩, q4, q5⟩ kp
    exact ⟨kp z (by simp) _ q1, kp TI (by simp) _ q2, ⟨u, v, kp TO (by simp) _ q3⟩, q4.at fun o e => kp i1 (by simp) o e, q5.at fun o e => kp i2 (by simp) o e⟩
  item := by
    intro X hP hw hK hc j pins s σ G E I hf st hg
    subst hP hw hK
    obtain ⟨q1, q2, ⟨u0, v0, q3⟩, q4, q5⟩ := st
    obtain ⟨us, vs, u, v, su, sv, gu, gv⟩ := hg
    obtain ⟨uits, ru, pu, _⟩ := I.list su
    obtain ⟨vits, rv, pv, _⟩ := I.tuple sv
    obtain ⟨uu, huu, ruu⟩ := ru.get gu
    obtain ⟨vv, hvv, rvv⟩ := rv.get gv
    have hd : X.A.handled = none := I.ok.hd hc
    have hzl : z < s.heap.objs.size := Heap.lt_size q1
    have ne1 : a ≠ i1 := fun e => by
      obtain ⟨o4, e4, c4, _⟩ := q4
      obtain ⟨o, oe, oc, _⟩ := pu.isList
      rw [e, e4] at oe
      cases oe
      rw [c4] at oc
      exact absurd oc (by decide)
    have ne2 : b ≠ i2 := fun e => by
      obtain ⟨o4, e4, c4, _⟩ := q5
      obtain ⟨o, oe, oc, _⟩ := pv
      rw [e, e4] at oe
      cases oe
      rw [c4] at oc
      exact absurd oc (by decide)
    have D1 := Draws.list (prog := X.prog) (w := X.w) (A := X.A.in1) hd i1 a ne1 uits.toArray
    have D2 := Draws.tuple (prog := X.prog) (w := X.w) (A := X.A.in1) hd i2 b ne2 vits.toArray
    have l1 : j < uits.toArray.size := by
      have := (List.getElem?_eq_some_iff.mp huu).1
      simpa using this
    have l2 : j < vits.toArray.size := by
      have := (List.getElem?_eq_some_iff.mp hvv).1
      simpa using this
    refine wpAny_pyNext_zipD2_item S D1 D2 q1 q2 q3 ⟨q4, pu.isList⟩ ⟨q5, pv⟩ l1 l2 fun x1 x2 h' tk e1 e2 n1 n3 n4 n5 nT nsz nk => ?_
    have ex1 : x1 = uu := Option.some.inj (e1.symm.trans (by simpa using huu))
    have ex2 : x2 = vv := Option.some.inj (e2.symm.trans (by simpa using hvv))
    subst ex1 ex2
    refine ⟨_, rfl, wpAny_letOwnedTupleGo_zip (s := { s with heap := h', toks := tk }) n1 fun h'' m1 sb => ?_⟩
    have mT : h''.get? s.heap.objs.size = some { cls := .type "tuple", data := .seq #[x1, x2] } := (sb.2 _ (Nat.ne_of_gt hzl)).trans nT
    have new : ObjOk X.prog X.w (upd G s.heap.objs.size (.tup [u, v])) h'' s.heap.objs.size (.tup [u, v]) :=
      ⟨by show 2 ≤ sizeLine; decide, [x1, x2], .cons ruu (.cons rvv .nil), ⟨_, mT, rfl, _, rfl⟩⟩
    have I1 : Inv X pins σ (upd G s.heap.objs.size (.tup [u, v])) { s with heap := h'', toks := tk } :=
      I.turnedNew (t' := tk) (ch := [z, TI, TO, i1, i2]) (fun c o hb q => (sb.2 c (fun e => hb (by simp [e]))).trans
        (nk c o (fun e => hb (by simp [e])) (fun e => hb (by simp [e])) (fun e => hb (by simp [e])) (fun e => hb (by simp [e])) q)) hf (Nat.le_refl _) new
    refine ⟨.ref s.heap.objs.size, _, I1, rfl, ⟨_, u, v, rfl, I.hok.fresh (Nat.le_refl _), rfl, fun l hl => ?_, fun l hl => ?_⟩, ⟨m1, ?_, ⟨x1, x2, ?_⟩, ?_, ?_⟩, fun c hcm => ?_⟩
    · rw [I.list_inj hl su]; exact gu
    · rw [I.tuple_inj hl sv]; exact gv
    · exact (sb.2 _ S.TIz).trans (nk _ _ S.TIz S.TITO S.TIi1 S.TIi2 q2)
    · exact (sb.2 _ S.TOz).trans n3
    · exact n4.1.at fun o e => (sb.2 _ S.zi1.symm).trans e
    · exact n5.1.at fun o e => (sb.2 _ S.zi2.symm).trans e
    · have low : c < s.heap.objs.size := by
        rcases in5 hcm with rfl | rfl | rfl | rfl | rfl
        · exact hzl
        · exact Heap.lt_size q2
        · exact Heap.lt_size q3
        · obtain ⟨_, y, _⟩ := q4; exact Heap.lt_size y
        · obtain ⟨_, y, _⟩ := q5; exact Heap.lt_size y
      rw [upd_ne (Nat.ne_of_lt low)]
      exact (hf c hcm).1
  done := by
    intro X hP hw hK hc j pins s σ G E I hf st hg
    subst hP hw hK
    obtain ⟨q1, q2, ⟨u0, v0, q3⟩, q4, q5⟩ := st
    obtain ⟨us, vs, su, sv, b1, b2, b3⟩ := hg
    obtain ⟨uits, ru, pu, _⟩ := I.list su
    obtain ⟨vits, rv, pv, _⟩ := I.tuple sv
    have hd : X.A.handled = none := I.ok.hd hc
    have ne1 : a ≠ i1 := fun e => by
      obtain ⟨o4, e4, c4, _⟩ := q4
      obtain ⟨o, oe, oc, _⟩ := pu.isList
      rw [e, e4] at oe
      cases oe
      rw [c4] at oc
      exact absurd oc (by decide)
    have ne2 : b ≠ i2 := fun e => by
      obtain ⟨o4, e4, c4, _⟩ := q5
      obtain ⟨o, oe, oc, _⟩ := pv
      rw [e, e4] at oe
      cases oe
      rw [c4] at oc
      exact absurd oc (by decide)
    have D1 := Draws.list (prog := X.prog) (w := X.w) (A := X.A.in1) hd i1 a ne1 uits.toArray
    have D2 := Draws.tuple (prog := X.prog) (w := X.w) (A := X.A.in1) hd i2 b ne2 vits.toArray
    have l1 := ru.length
    have l2 := rv.length
    refine wpAny_pyNext_zipD2_end S D1 D2 q1 q2 q3 ⟨q4, pu.isList⟩ ⟨q5, pv⟩ (by simp; omega) (by simp; omega) (by simp; omega) fun h' tk nk => ⟨rfl, ?_⟩
    exact I.turnedL (t' := tk) (ch := [z, TI, TO, i1, i2]) (fun c o hb q =>
      nk c o (fun e => hb (by simp [e])) (fun e => hb (by simp [e])) (fun e => hb (by simp [e])) (fun e => hb (by simp [e])) q) hf
  self := fun A j s Q E st h => wpAny_pyIter_zip st.1 h
def iZipLT (K : PySem.W.Frag) (ta : TA) : TI := fun σ G R => ta σ G fun vs G1 => ∃ a b us ys, vs = [.ref a, .ref b] ∧ SqL K G1 a us ∧ SqT K G1 b ys ∧ R (ItLT K a b) G1
theorem pi_zipLT {X : Cx} {e e2 : Expr} {ta : TA} {p pos tpos : Pos} {elts : List Expr} {kk : Nat} (hg : Gl X "zip") (hm : X.mg "zip" = none) (ha : PA X [e, e2] ta)
    (plainArgs : starEach [e, e2] X.env = (false, eval e X.env) :: starEach [e2] X.env := by rfl)
    (noStar : (backTo pos (starEach [e2] X.env)).any (·.1) = false := by rfl) :
    PI X (.Tuple elts kk tpos) (.Call (.Name "zip" p) [e, e2] [] pos) (iZipLT X.K ta) := by
  refine ⟨fun pins s σ G R I h => Call_ (ld_blt I hg hm PyProof.Rows.boot_zip (PyProof.Rows.callWith_type1 (thn (ha.run pos pins s σ G _ I h) fun us s1 ⟨vs, G1, I1, r1, q1⟩ => ?_) plainArgs noStar))⟩
  obtain ⟨a, b, xs, ys, rfl, sx, sy, q⟩ := q1
  cases r1 with
  | cons r rr => cases rr with
    | cons r' rr =>
      cases rr
      cases r
      cases r'
      obtain ⟨uits, ru, pu, _⟩ := I1.list sx
      obtain ⟨vits, rv, pv, _⟩ := I1.tuple sy
      obtain ⟨oa, ea, _⟩ := id pu.isList
      obtain ⟨ob, eb, _⟩ := id pv
      have S := zip_sep2 (N := s1.heap.objs.size) (fp1 := [a]) (fp2 := [b]) (fun c hc => by rw [List.mem_singleton.mp hc]; exact Heap.lt_size ea) (fun c hc => by rw [List.mem_singleton.mp hc]; exact Heap.lt_size eb)
      refine zip_begins2 (begins_list a uits.toArray) (begins_tuple b vits.toArray) pu.isList pv fun h' g1 g2 g3 g4 g5 gsz gk => wpAny_pyIter_zip g1 ?_
      refine ⟨s1.heap.objs.size + 4, [s1.heap.objs.size + 4, s1.heap.objs.size + 2, s1.heap.objs.size + 3, s1.heap.objs.size, s1.heap.objs.size + 1], _, _, G1, rfl, I1.kept (t' := s1.toks) gk, turnLT S,
        ⟨g1, g2, ⟨_, _, g3⟩, ⟨_, g4, rfl, rfl⟩, ⟨_, g5, rfl, rfl⟩⟩, fun c hc => ?_, q⟩
      have above : s1.heap.objs.size ≤ c := by
        rcases in5 hc with rfl | rfl | rfl | rfl | rfl
        · exact Nat.le_add_right _ _
        · exact Nat.le_add_right _ _
        · exact Nat.le_add_right _ _
        · exact Nat.le_refl _
        · exact Nat.le_add_right _ _
      exact I1.fpOk above (I1.hok.fresh above)
theorem walkLT {K : PySem.W.Frag} {a b : Addr} {xs ys : List V} {n : Nat} (h1 : xs.length = n) (h2 : ys.length = n) : Walk (ItLT K a b) n (fun G => SqL K G a xs ∧ SqT K G b ys) (YPair (fun i => xs[i]?) (fun i => ys[i]?)) := by
  refine ⟨fun i G hi q => ⟨xs, ys, xs[i]'(by omega), ys[i]'(by omega), q.1, q.2, List.getElem?_eq_getElem _, List.getElem?_eq_getElem _⟩, fun G q => ⟨xs, ys, q.1, q.2, by omega, by omega, by omega⟩, fun i G v G' _ q y => ?_⟩
  obtain ⟨T, u, v, e1, e2, e3, e4, e5⟩ := y
  exact ⟨T, u, v, e1, e2, e3, e4 xs q.1, e5 ys q.2⟩
/-! ### repr of data -/
def rReprD (K : PySem.W.Frag) : List V → Hp → VK → Prop := fun xs G Q => ∃ a d, xs = [.ref a] ∧ Dp K G (.ref a) d ∧ d.showable = true ∧ d.hasDict = false ∧ d.depth ≤ 60 ∧ d.shown.length ≤ sizeLine ∧ Q (.str d.shown) G
theorem call_reprD {X : Cx} (hu : X.A.units + 64 < cLine) (hgd : X.A.guards = some []) : CallR X (.builtin "repr") (rReprD X.K) := by
  intro pins s σ G xs us Q I r h
  obtain ⟨a, d, rfl, hd, s1, s2, s3, s4, q⟩ := h
  obtain ⟨given, rfl, rel⟩ := vals1 r
  obtain ⟨as, rd⟩ := Dp.reads I d _ _ hd rel
  cases rel
  refine repr_of_reads' rd s1 (fun e => by rw [s2] at e; cases e) hgd (by omega) (fun _ _ e => e) (fun h' t tk kp => ?_) s4
  exact ⟨.str d.shown, G, I.kept (t' := tk) kp, ⟨_, rfl⟩, q⟩
end C2

namespace C2
set_option Elab.async false
set_option linter.all false
set_option maxRecDepth 100000
set_option maxHeartbeats 4000000
open PySem PySem.Spec PyProof.Rows L2
/-! ### a def's promise where no repr is under way -/
structure FnG (P : Program) (w : World) (K : PySem.W.Frag) (mg : Str → Option Value) (base : Heap) (k : Nat) (f : Addr) (fd : FuncData) (ps : List Str) (sp : Sp) : Prop where
  len : ∀ vs G Q E, sp vs G Q E → vs.length = ps.length
  run : ∀ (A : Around) (outer : List Env) (s : Shared) (G : Hp) (args : Args) (us : List Value) (vs : List V) (Q : VK) (E : XK), A.guards = some [] → Room k A →
    Env0 P w K mg base A outer s G → BindsTo s fd args (ps.zip us) → Vals vs us → sp vs G Q E → codeAny (model P w) A (.call (.ref f) args) (CR CX0 outer P w G s Q E) s
section
variable {P : Program} {w : World} {K : PySem.W.Frag} {mg : Str → Option Value} {base : Heap}
theorem deeper_guards {A : Around} {env : Env} (h : A.guards = some []) : (A.deeper env).guards = some [] := h
theorem okG {x qual : Str} {st : Stmt} {f : Addr} {fd : FuncData} {N ps : List Str} {k : Nat} {sp : Sp} (F : Fun K x qual st f fd) (S : FnScope N ps (defScope st)) (len : ∀ vs G Q E, sp vs G Q E → vs.length = ps.length)
    (body : ∀ (cdv : Value) (A : Around) (outer : List Env) (s : Shared) (G : Hp) (vs : List V) (Q : VK) (E : XK), A.guards = some [] → Room k (A.deeper (envOfC qual (defScope st) s.heap.objs.size f cdv)) → sp vs G Q E →
      ∃ t, PSs (cxOf CX0 P w K mg base N qual (defScope st) f cdv A outer s G E).nox (defBody st) t ∧ t { nx := fun _ G' => Q .non G', rt := Q } (start N vs) G) : FnG P w K mg base (k + 1) f fd ps sp := by
  obtain ⟨v1, v2, v3, v4, v5, v6, cdv, v7, v8, rfl, lk, hcd⟩ := F.ex
  refine ⟨len, fun A outer s G args us vs Q E hgd hr e0 hb r hsp => ?_⟩
  have ln := len vs G Q E hsp
  have inK : K.In s.heap := e0.mod.kin.keeps fun c y e => (e0.bs c y e).left
  have noL : s.heap.NoLimit := e0.mod.nolimit.keeps fun c y e => (e0.bs c y e).left
  refine codeAny_call_function hr.depth (inK _ _ lk) rfl S.co S.gen rfl (PySem.W.codeRec_of inK hcd) (hb _ _ _ _ ?_)
  refine wpAny_newFunctionEnv_cells S.kind (fun y hy => ?_) fun env he s1 x => ?_
  · rcases S.par y.1 (List.of_mem_zip (a := y.1) (b := y.2) hy).1 with q | q
    · exact Or.inl q
    · exact Or.inr ⟨q, PySem.W.cellsFrom_some _ _ _ (Or.inl q)⟩
  · subst he
    refine ⟨noL.keeps x.toInCall.keep, codeAny_func ?_⟩
    obtain ⟨t, ht, hq⟩ := body cdv A outer s G vs Q E hgd (hr.deeper _) hsp
    have J0 := inv_start (CX := CX0) (E := E) S hr.hd e0 ln r x
    refine wpAny_mono (ht.nox.run [] s1 (start N vs) G _ J0 hq) (fun fl s' hs => ?_) fun _ _ hs => hs
    cases fl with
    | ret u =>
      obtain ⟨v, σ', G', J, rv, q⟩ := hs
      exact ⟨v, G', J.os, J.bare, J.base, J.hok, rv, q⟩
    | next =>
      obtain ⟨σ', G', J, q⟩ := hs
      exact ⟨V.non, G', J.os, J.bare, J.base, J.hok, rfl, q⟩
    | brk =>
      obtain ⟨_, _, _, q⟩ := hs
      exact q.elim
    | cont =>
      obtain ⟨_, _, _, q⟩ := hs
      exact q.elim
/-- what the law's own call leaves: True, and what stood before as it was -/
def Leaves (s₁ : Shared) : Except Value Flow → Shared → Prop := fun r s' => r = .ok (.ret (.bool true)) ∧ OldK s₁.heap s'.heap ∧
  s'.os = s₁.os ∧ AllBare s'.gens
/-- the law's own call -/
theorem law_callG {mb : Str → Option Value} {k : Nat} {fa a : Addr} {fd : FuncData} {x : Str} {sp : Sp} {s₁ : Shared} {vs : List Value} {ns : List Int}
    (inK : K.In s₁.heap) (hns : s₁.heap.Ns mainGlobals mg) (hb : s₁.heap.Ns builtinsNs mb) (hbb : ∀ x : Str, x ≠ "__name__" → mb x = bootBuiltins x) (hlim : s₁.heap.NoLimit) (hg : s₁.gens = #[])
    (hr : Room k callerA) (hl : ns.length ≤ sizeLine) (hi : IntsAre vs ns)
    (ha : s₁.heap.get? a = some { cls := .type "list", data := .seq vs.toArray })
    (F : ∀ base : Heap, K.In base → base.Ns mainGlobals mg → FnG P w K mg base k fa fd [x] sp) (hbind : ∀ (s : Shared) (u : Value), BindsTo s fd ⟨[u], []⟩ [(x, u)])
    (hsp : ∀ G : Hp, SqL K G a (ns.map V.int) → sp [.ref a] G (fun v _ => v = .bl true) fun _ _ _ => False) :
    codeAny (model P w) callerA (.call (.ref fa) ⟨[.ref a], []⟩) (Leaves s₁) s₁ := by
  have main : ∀ G : Hp, Only G → SqL K G a (ns.map V.int) → HOk P w G s₁.heap → (∀ b, G b ≠ none → b = a) → (G a ≠ none → K.lookup a = none) →
      codeAny (model P w) callerA (.call (.ref fa) ⟨[.ref a], []⟩) (Leaves s₁) s₁ := by
    intro G only sq hok one off
    have hid : ∀ {b : Addr} {y : Obj}, s₁.heap.get? b = some y → (G b = none) → (hidT s₁.heap G).get? b = some y := fun e n => hidT_get e n
    have dct : ∀ {b : Addr} {y : Obj} {es : Array DictEntry} {ep : Nat}, s₁.heap.get? b = some y → y.data = .dict es ep → G b = none := by
      intro b y es ep e d
      cases q : G b with
      | none => rfl
      | some u =>
        have z : b = a := one b (by rw [q]; exact Option.some_ne_none u)
        rw [z, ha] at e
        cases e
        exact absurd d (by intro c; cases c)
    have nsp : ∀ {b : Addr} {m : Str → Option Value}, s₁.heap.Ns b m → (hidT s₁.heap G).Ns b m := by
      rintro b m ⟨y, es, ep, e, d, r⟩
      exact ⟨y, es, ep, hid e (dct e d), d, r⟩
    have kb : K.In (hidT s₁.heap G) := by
      intro b y e
      refine hid (inK b y e) ?_
      cases q : G b with
      | none => rfl
      | some u =>
        have z : b = a := one b (by rw [q]; exact Option.some_ne_none u)
        rw [z] at q e
        rw [off (by rw [q]; exact Option.some_ne_none u)] at e
        cases e
    have md : Mod K mg (hidT s₁.heap G) := by
      refine ⟨kb, nsp hns, ⟨mb, nsp hb, hbb⟩, ?_⟩
      obtain ⟨mc, y1, y2⟩ := hlim
      exact ⟨mc, nsp y1, y2⟩
    have e0 : Env0 P w K mg (hidT s₁.heap G) callerA [] s₁ G :=
      ⟨rfl, md, fun b y e => of_hidT e, Nat.le_of_eq (hidT_size _ _), trivial, fun b z => absurd (show b ∈ ([] : List Addr) from z) List.not_mem_nil, hok, .of_eq hg⟩
    refine codeAny_mono ((F _ kb (nsp hns)).run callerA [] s₁ G ⟨[.ref a], []⟩ [.ref a] [.ref a] _ _ rfl hr e0 (hbind s₁ (.ref a)) (.cons rfl .nil) (hsp G sq)) fun r s' h => ?_
    cases r with
    | error e => exact False.elim h
    | ok fl => cases fl with
      | next => exact False.elim h
      | brk => exact False.elim h
      | cont => exact False.elim h
      | ret u =>
        obtain ⟨v, G', os, bare, un, hok', r', (q : v = .bl true)⟩ := h
        subst q
        cases (show u = Value.bool true from r')
        refine ⟨rfl, OldK.of_keep fun b y e => ?_, os, bare⟩
        cases q : G b with
        | none => exact un.keep b y e q (fun z => absurd (show b ∈ ([] : List Addr) from z) List.not_mem_nil) List.not_mem_nil
        | some u => rcases only b with z | ⟨ob, xs, z⟩
                    · rw [q] at z; cases z
                    · have f1 := (hok b _ z).1
                      have f2 := (hok' b _ (un.frzs b ob _ z)).1
                      rw [e] at f1
                      cases f1
                      exact f2
  have rv := vals_ints hi
  have ln := hi.length
  cases hk : K.lookup a with
  | some y =>
    have e := inK a y hk
    rw [ha] at e
    cases e
    exact main (fun _ => none) (fun _ => .inl rfl) (.inr ⟨_, vs.toArray, _, hk, rfl, rfl, rfl, by rw [List.size_toArray, ln]; exact hl, by simpa using rv⟩)
      (fun b u z => by cases (show (none : Option HO) = some u from z)) (fun b z => absurd rfl z) fun z => absurd rfl z
  | none =>
    obtain ⟨G, at_a, not_a⟩ : ∃ G : Hp, (∀ b, b = a → G b = some (.frz { cls := .type "list", data := .seq vs.toArray } (.lst (ns.map V.int)))) ∧ ∀ b, b ≠ a → G b = none :=
      ⟨fun b => if b = a then some (HO.frz { cls := .type "list", data := .seq vs.toArray } (.lst (ns.map V.int))) else none, fun b e => if_pos e, fun b e => if_neg e⟩
    refine main G (fun b => ?_) (.inl (.inr ⟨_, at_a a rfl⟩)) (fun b u z => ?_) (fun b z => ?_) fun _ => hk
    · by_cases c : b = a
      · exact .inr ⟨_, _, at_a b c⟩
      · exact .inl (not_a b c)
    · by_cases c : b = a
      · rw [at_a b c] at z
        cases z
        rw [c]
        refine ⟨ha, ?_, vs, _, rv, ha⟩
        rw [List.length_map]
        exact hl
      · rw [not_a b c] at z
        cases z
    · by_cases c : b = a
      · exact c
      · exact absurd (not_a b c) z
end
theorem walkG {l : PySem.W.OpenLaw} {n k : Nat} {q : Program} {loose : List Str} {XP : (Str → Option Value) → Heap → Prop} {YP : World → Heap → Prop} {d : DefRec} {K : Params → PySem.W.Frag} {sp : PySem.W.Frag → Sp} {x : Str}
    (most : l.most = some n) (short : n ≤ sizeLine) (bare : d.params.defaults = []) (room : Room k callerA)
    (stands : ∀ (w : World) (h : Heap), YP w h → (K w.params).In h)
    (promise : ∀ (w : World) (mg : Str → Option Value) (fa : Addr) (h : Heap), (K w.params).In h → h.Ns mainGlobals mg →
      mg d.name = some (.ref fa) →
      ∃ fd : FuncData, (∀ (s : Shared) (u : Value), BindsTo s fd ⟨[u], []⟩ [(x, u)]) ∧ ∀ base : Heap, (K w.params).In base → base.Ns mainGlobals mg → FnG l.prog w (K w.params) mg base k fa fd [x] (sp (K w.params)))
    (hsp : ∀ (K : PySem.W.Frag) (G : Hp) (a : Addr) (ns : List Int), ns.length ≤ n → SqL K G a (ns.map V.int) → sp K [.ref a] G (fun v _ => v = .bl true) fun _ _ _ => False) :
    PySem.W.WalkO q loose XP YP l.row.toRowW d []
      (fun f vs => PySem.call f vs) := by
  refine Att.attach_call most bare fun w _ s₁ mg mb fa _ _ _ _ a vs ns G Y _ _ _ hmg there nums few gens => ?_
  have inK := stands w _ Y
  obtain ⟨fd, binds, ok⟩ := promise w mg fa _ inK G.T.g hmg
  exact law_callG inK G.T.g G.T.b G.T.builtins G.T.nolimit gens room (Nat.le_trans few short) nums there ok binds fun H hS => hsp _ H a ns few hS
end C2

namespace C2
set_option Elab.async false
set_option linter.all false
set_option maxRecDepth 100000
set_option maxHeartbeats 4000000
open PySem PySem.Spec PyProof.Rows L2
section
variable {P : Program} {w : World} {K : PySem.W.Frag} {mg : Str → Option Value} {base : Heap}
theorem frSeq {p : Addr} {H H' : Hp} {a : Addr} {xs : List V} (e : Fr p H H') (n : a ≠ p) (h : SqL K H a xs) : SqL K H' a xs := by
  rcases h with (h | ⟨o, h⟩) | h
  · exact .inl (.inl (e _ _ n h))
  · exact .inl (.inr ⟨o, e _ _ n h⟩)
  · exact .inr h
def spOf (K : PySem.W.Frag) : Sp := fun vs H Q _ => ∃ (p a : Addr) (xs : List V) (n : Nat), vs = [.ref p, .ref a] ∧ PotAt H p n ∧ n < 1000000 ∧ a ≠ p ∧ SqL K H a xs ∧ 0 < xs.length ∧ xs.length < 1000000 ∧
  ∀ v H', Fr p H H' → PotAt H' p (n + 1) → v ∈ xs → Q v H'
theorem ok_of {f fT : Addr} {fd fdT : FuncData} {k : Nat} (F : Fun K "_law_of" "_law_of" sOf f fd) (FT : Fun K "_law_take" "_law_take" sTake fT fdT) (bT : Binds K fdT ["_law_pot_here", "_law_many"] []) (gT : mg "_law_take" = some (.ref fT)) (ml : mg "len" = none) : FnOk P w K mg base CX0 (k + 2) f fd ["_law_pot_here", "_law_some"] (spOf K) := by
  have GT : FnOk P w K mg base CX0 (k + 1) fT fdT ["_law_pot_here", "_law_many"] spTake := ok_take FT
  refine F.ok scOf (fun vs H Q E h => ?_) (fun cdv A outer s H vs Q E hr h => ?_)
  · obtain ⟨p, a, xs, n, rfl, _⟩ := h
    rfl
  · obtain ⟨p, a, xs, n, rfl, hP, hn, hap, hS, h0, h1, q⟩ := h
    refine ⟨_, pss_one (ps_ret (pe_ix ix_list (pv 1) (pe_call GT hr (by rfl) gT FT.kp bT .nil pass0 (pa_cons (pv 0) (pa_cons (pe_callB call_len_seq (by rfl) ml PySem.boot_len (pa_cons (pv 1) pa_nil)) pa_nil))) (fun _ _ => rfl))), ?_⟩
    refine ⟨.ref a, rfl, .ref p, rfl, .ref a, rfl, a, _, rfl, .inl hS, p, _, n, rfl, hP, hn, by omega, by omega, fun d H1 fr hP1 d0 d1 => ?_⟩
    have hd : d.toNat < xs.length := by omega
    have ed : d = (d.toNat : Int) := by omega
    refine ⟨a, _, d, xs[d.toNat], rfl, rfl, frSeq fr hap hS, at_of ed (List.getElem?_eq_getElem hd), ?_⟩
    exact q _ _ fr hP1 (List.getElem_mem hd)
def rLen (K : PySem.W.Frag) : List V → Hp → VK → Prop := fun xs H Q => ∃ p ys, xs = [.ref p] ∧ (SqL K H p ys ∨ SqT K H p ys) ∧ Q (.int (ys.length : Nat)) H
end
end C2

namespace C2
set_option Elab.async false
set_option linter.all false
set_option maxRecDepth 100000
set_option maxHeartbeats 4000000
open PySem PySem.Spec PyProof.Rows L2
abbrev vrefs (cs : List (Addr × List V)) : List V := cs.map fun c => V.ref c.1
def CellsV (G : Hp) (cs : List (Addr × List V)) : Prop := ∀ c ∈ cs, G c.1 = some (.tup c.2)
theorem CellsV.same {G G' : Hp} {cs : List (Addr × List V)} (h : CellsV G cs) (s : Same G G') : CellsV G' cs := fun c hc => s _ _ (h c hc)
def GrowV (xs : List (List V)) (H : Hp) (D : Addr) (G : Hp) : Prop := ∃ cs : List (Addr × List V), Same H G ∧ G D = some (.lst (vrefs cs)) ∧ CellsV G cs ∧ cs.map (·.2) = xs
theorem GrowV.step {xs : List (List V)} {y : List V} {H G G2 : Hp} {D T : Addr} (I : GrowV xs H D G) (lo : xs.length < 100000) (nD : H D = none) (sm2 : Same G G2) (nT : G T = none) (hT : G2 T = some (.tup y)) :
    ∃ acc, G2 D = some (.lst acc) ∧ acc.length < sizeLine ∧ GrowV (xs ++ [y]) H D (upd G2 D (.lst (acc ++ [.ref T]))) := by
  obtain ⟨cs, sm, hD, hcs, e⟩ := I
  have ln : cs.length < 100000 := by
    have e1 : cs.length = (cs.map (·.2)).length := (List.length_map _).symm
    rw [e1, e]
    exact lo
  have hne : T ≠ D := fun z => by rw [z, hD] at nT; cases nT
  refine ⟨vrefs cs, sm2 _ _ hD, ?_, cs ++ [(T, y)], ?_, ?_, ?_, ?_⟩
  · rw [List.length_map]
    exact Nat.lt_of_lt_of_le ln (by decide)
  · intro b o eb
    rw [upd_ne (ne_of_none eb nD)]
    exact sm2 _ _ (sm _ _ eb)
  · rw [upd_same]
    show _ = some (HO.lst (List.map _ (cs ++ [_])))
    rw [List.map_append]
    rfl
  · intro c hc
    rcases List.mem_append.mp hc with hc | hc
    · have hh := hcs c hc
      rw [upd_ne (ne_of hh hD (by intro z; cases z))]
      exact sm2 _ _ hh
    · rw [List.mem_singleton] at hc
      subst hc
      rw [upd_ne hne]
      exact hT
  · rw [List.map_append, e]
    rfl
theorem GrowV.len {xs : List (List V)} {H G : Hp} {D : Addr} (I : GrowV xs H D G) : ∃ ys, G D = some (.lst ys) ∧ ys.length = xs.length := by
  obtain ⟨cs, _, h, _, e⟩ := I
  exact ⟨_, h, by rw [List.length_map, ← e, List.length_map]⟩
theorem GrowV.ext {xs ys : List (List V)} {H G G' : Hp} {D l : Addr} (I : GrowV xs H l G) (J : GrowV ys G D G') (nl : H l = none) :
    ∃ as bs, G' l = some (.lst as) ∧ G' D = some (.lst bs) ∧ as.length = xs.length ∧ bs.length = ys.length ∧ GrowV (xs ++ ys) H l (upd G' l (.lst (as ++ bs))) := by
  obtain ⟨cs, sm, hl, hc, e⟩ := I
  obtain ⟨ds, sm2, hD, hd, e2⟩ := J
  have hl2 := sm2 _ _ hl
  refine ⟨_, _, hl2, hD, by rw [List.length_map, ← e, List.length_map], by rw [List.length_map, ← e2, List.length_map], cs ++ ds, ?_, ?_, ?_, ?_⟩
  · intro b o eb
    rw [upd_ne (ne_of_none eb nl)]
    exact sm2 _ _ (sm _ _ eb)
  · rw [upd_same]
    show _ = some (HO.lst (List.map _ (cs ++ ds)))
    rw [List.map_append]
  · intro c hcc
    rcases List.mem_append.mp hcc with hcc | hcc
    · have hh := sm2 _ _ (hc c hcc)
      rw [upd_ne (ne_of hh hl2 (by intro z; cases z))]
      exact hh
    · have hh := hd c hcc
      rw [upd_ne (ne_of hh hl2 (by intro z; cases z))]
      exact hh
  · rw [List.map_append, e, e2]
theorem getD_at {vs : List Int} {i : Nat} {x : V} (h : (vs.map V.int)[i]? = some x) : i < vs.length ∧ x = .int (vs.getD i 0) := by
  have hi : i < vs.length := by
    have := (List.getElem?_eq_some_iff.mp h).1
    rw [List.length_map] at this
    exact this
  refine ⟨hi, ?_⟩
  rw [List.getElem?_map, List.getElem?_eq_getElem hi] at h
  rw [List.getD_eq_getElem?_getD, List.getElem?_eq_getElem hi]
  exact (Option.some.inj h).symm
theorem atD {vs : List Int} {i : Nat} (hi : i < vs.length) : atI (vs.map V.int) (i : Int) = some (.int (vs.getD i 0)) := by
  refine atI_nat ?_
  rw [List.getElem?_map, List.getElem?_eq_getElem hi, List.getD_eq_getElem?_getD, List.getElem?_eq_getElem hi]
  rfl
/-- a thing: a tuple of these, or none -/
inductive Thg (G : Hp) : V → Option (List V) → Prop where
  | non : Thg G .non none
  | bl (b : Bool) : Thg G (.bl b) none
  | int (i : Int) : Thg G (.int i) none
  | str (x : Str) : Thg G (.str x) none
  | lst {a : Addr} {xs : List V} (e : G a = some (.lst xs)) : Thg G (.ref a) none
  | dK {a : Addr} {kvs : List (Key × V)} (e : G a = some (.dK kvs)) : Thg G (.ref a) none
  | tup {a : Addr} {xs : List V} (e : G a = some (.tup xs)) : Thg G (.ref a) (some xs)
theorem Thg.same {G G' : Hp} {v : V} {o : Option (List V)} (h : Thg G v o) (s : Same G G') : Thg G' v o := by
  cases h with
  | non => exact .non
  | bl b => exact .bl b
  | int i => exact .int i
  | str x => exact .str x
  | lst e => exact .lst (s _ _ e)
  | dK e => exact .dK (s _ _ e)
  | tup e => exact .tup (s _ _ e)
def isIB : V → Bool
  | .int _ => true
  | .bl _ => true
  | _ => false
def isBo : V → Bool
  | .bl _ => true
  | _ => false
def isSt : V → Bool
  | .str _ => true
  | _ => false
def isIn : V → Bool
  | .int _ => true
  | _ => false
theorem isIn_int : ∀ {v : V}, isIn v = true → ∃ i, v = .int i
  | .int i, _ => ⟨i, rfl⟩
theorem isIB_not : ∀ {v : V}, isIB v = true → (!isBo v) = isIn v
  | .int _, _ => rfl
  | .bl _, _ => rfl
theorem isIB_int : ∀ {v : V}, isIB v = true → isBo v = false → ∃ i, v = .int i
  | .int i, _, _ => ⟨i, rfl⟩
theorem isIB_no : ∀ {v : V}, ¬ isIB v = true → isIn v = false
  | .int _, e => absurd rfl e
  | .bl _, _ | .non, _ | .str _, _ | .byt _, _ | .flt _, _ | .ref _, _ | .ty _, _ => rfl
theorem isSt_str : ∀ {v : V}, isSt v = true → ∃ x, v = .str x
  | .str x, _ => ⟨x, rfl⟩
def betw : V → Int → Int → Bool
  | .int i, lo, hi => decide (lo ≤ i ∧ i ≤ hi)
  | _, _, _ => false
theorem betw_no : ∀ {v : V} {lo hi : Int}, isIn v = false → betw v lo hi = false
  | .bl _, _, _, _ | .non, _, _, _ | .str _, _, _, _ | .byt _, _, _, _ | .flt _, _, _, _ | .ref _, _, _, _ | .ty _, _, _, _ => rfl
theorem Thg.some_tup {G : Hp} {v : V} {xs : List V} (h : Thg G v (some xs)) : ∃ a, v = .ref a ∧ G a = some (.tup xs) := by
  cases h with
  | tup e => exact ⟨_, rfl, e⟩
theorem Thg.kit {K : PySem.W.Frag} {G : Hp} {v : V} {o : Option (List V)} (h : Thg G v o) : ∃ n, TyX K G v (.type n) ∧ kitB n "int" = some (isIB v) ∧ kitB n "bool" = some (isBo v) ∧ kitB n "tuple" = some o.isSome ∧ kitB n "str" = some (isSt v) := by
  cases h with
  | non => exact ⟨_, .base .non, by decide +kernel, by decide +kernel, by decide +kernel, by decide +kernel⟩
  | bl b => exact ⟨_, .base (.bl b), (by decide +kernel : kitB "bool" "int" = some true), (by decide +kernel : kitB "bool" "bool" = some true), by decide +kernel, (by decide +kernel : kitB "bool" "str" = some false)⟩
  | int i => exact ⟨_, .base (.int i), (by decide +kernel : kitB "int" "int" = some true), (by decide +kernel : kitB "int" "bool" = some false), by decide +kernel, (by decide +kernel : kitB "int" "str" = some false)⟩
  | str x => exact ⟨_, .base (.str x), (by decide +kernel : kitB "str" "int" = some false), (by decide +kernel : kitB "str" "bool" = some false), by decide +kernel, (by decide +kernel : kitB "str" "str" = some true)⟩
  | lst e => exact ⟨_, .base (.lst e), (by decide +kernel : kitB "list" "int" = some false), (by decide +kernel : kitB "list" "bool" = some false), by decide +kernel, (by decide +kernel : kitB "list" "str" = some false)⟩
  | dK e => exact ⟨_, .base (.dK e), (by decide +kernel : kitB "dict" "int" = some false), (by decide +kernel : kitB "dict" "bool" = some false), by decide +kernel, (by decide +kernel : kitB "dict" "str" = some false)⟩
  | tup e => exact ⟨_, .base (.tup e), (by decide +kernel : kitB "tuple" "int" = some false), (by decide +kernel : kitB "tuple" "bool" = some false), (by decide +kernel : kitB "tuple" "tuple" = some true), (by decide +kernel : kitB "tuple" "str" = some false)⟩
section
variable {P : Program} {w : World} {K : PySem.W.Frag} {mg : Str → Option Value} {base : Heap}
theorem scPWhole : FnScope ["thing"] ["thing"] (defScope sPWhole) := ⟨rfl, rfl, rfl, by decide +kernel, rfl, by decide +kernel, by decide +kernel⟩
theorem scBetween : FnScope ["thing", "least", "most"] ["thing", "least", "most"] (defScope sBetween) := ⟨rfl, rfl, rfl, by decide +kernel, rfl, by decide +kernel, by decide +kernel⟩
theorem scTupOf : FnScope ["thing", "many"] ["thing", "many"] (defScope sTupOf) := ⟨rfl, rfl, rfl, by decide +kernel, rfl, by decide +kernel, by decide +kernel⟩
def spPWhole : Sp := fun vs H Q _ => ∃ v o, vs = [v] ∧ Thg H v o ∧ Q (.bl (isIn v)) H
theorem ok_pwhole {f : Addr} {fd : FuncData} {k : Nat} (F : Fun K "is_whole" "is_whole" sPWhole f fd) (mi : mg "isinstance" = none) (mint : mg "int" = none) (mbool : mg "bool" = none) : FnOk P w K mg base CX0 (k + 1) f fd ["thing"] spPWhole := by
  refine F.ok scPWhole (fun vs H Q E h => ?_) (fun cdv A outer s H vs Q E hr h => ?_)
  · obtain ⟨v, o, rfl, _⟩ := h
    rfl
  · obtain ⟨v, o, rfl, t, q⟩ := h
    obtain ⟨n, ty, k1, k2, _, _⟩ := t.kit (K := K)
    refine ⟨_, pss_one (ps_ret (pe_and (pe_callB call_isi (by rfl) mi (by decide +kernel) (pa_cons (pv 0) (pa_cons (pe_bltn (v := .ty "int") (by rfl) mint (by decide +kernel) rfl) pa_nil))) (pe_one (pe_not (pe_callB call_isi (by rfl) mi (by decide +kernel) (pa_cons (pv 0) (pa_cons (pe_bltn (v := .ty "bool") (by rfl) mbool (by decide +kernel) rfl) pa_nil))))))), ?_⟩
    refine ⟨v, rfl, v, .ty "int", _, _, _, rfl, .ty "int", ty, kit_ty k1, _, rfl, ite2 (fun e => ?_) (fun e => ?_)⟩
    · refine ⟨v, rfl, v, .ty "bool", _, _, _, rfl, .ty "bool", ty, kit_ty k2, _, rfl, ?_⟩
      have z : (!isBo v) = isIn v := isIB_not e
      show Q (V.bl (!isBo v)) H
      rw [z]
      exact q
    · have z : false = isIn v := (isIB_no e).symm
      show Q (V.bl false) H
      rw [z]
      exact q
def spBetween : Sp := fun vs H Q _ => ∃ v o lo hi, vs = [v, .int lo, .int hi] ∧ Thg H v o ∧ Q (.bl (betw v lo hi)) H
theorem ok_between {f fW : Addr} {fd fdW : FuncData} {k : Nat} (F : Fun K "is_between" "is_between" sBetween f fd) (FW : Fun K "is_whole" "is_whole" sPWhole fW fdW) (bW : Binds K fdW ["thing"] []) (gW : mg "is_whole" = some (.ref fW)) (mi : mg "isinstance" = none) (mint : mg "int" = none) (mbool : mg "bool" = none) : FnOk P w K mg base CX0 (k + 2) f fd ["thing", "least", "most"] spBetween := by
  have GW : FnOk P w K mg base CX0 (k + 1) fW fdW ["thing"] spPWhole := ok_pwhole FW mi mint mbool
  refine F.ok scBetween (fun vs H Q E h => ?_) (fun cdv A outer s H vs Q E hr h => ?_)
  · obtain ⟨v, o, lo, hi, rfl, _⟩ := h
    rfl
  · obtain ⟨v, o, lo, hi, rfl, t, q⟩ := h
    refine ⟨_, pss_one (ps_ret (pe_and (pe_call GW hr (by rfl) gW FW.kp bW .nil pass0 (pa_cons (pv 0) pa_nil)) (pe_one (pe_chain op_le op_le (pv 1) (pv 0) (pv 2))))), ?_⟩
    refine ⟨v, rfl, v, o, rfl, t, _, rfl, ite2 (fun e => ?_) (fun e => ?_)⟩
    · obtain ⟨i, rfl⟩ := isIn_int e
      refine ⟨.int lo, rfl, .int i, rfl, lo, i, rfl, rfl, _, rfl, ite2 (fun e1 => ?_) (fun e1 => ?_)⟩
      · refine ⟨.int hi, rfl, i, hi, rfl, rfl, ?_⟩
        have e2 := of_decide_eq_true e1
        have z : decide (i ≤ hi) = betw (.int i) lo hi := by
          show _ = decide (_ ∧ _)
          by_cases y : i ≤ hi <;> simp [y, e2]
        show Q (V.bl (decide (i ≤ hi))) H
        rw [z]
        exact q
      · have e2 : ¬ lo ≤ i := fun y => e1 (decide_eq_true y)
        have z : false = betw (.int i) lo hi := by
          show _ = decide (_ ∧ _)
          rw [decide_eq_false (by omega)]
        show Q (V.bl false) H
        rw [z]
        exact q
    · have z : false = betw v lo hi := (betw_no (Bool.eq_false_iff.mpr e)).symm
      show Q (V.bl false) H
      rw [z]
      exact q
def lenIs (o : Option (List V)) (m : Int) : Bool := match o with
  | some xs => decide ((xs.length : Int) = m)
  | none => false
def spTupOf : Sp := fun vs H Q _ => ∃ v o m, vs = [v, .int m] ∧ Thg H v o ∧ Q (.bl (lenIs o m)) H
theorem ok_tupOf {f : Addr} {fd : FuncData} {k : Nat} (F : Fun K "is_tuple_of" "is_tuple_of" sTupOf f fd) (mi : mg "isinstance" = none) (mtup : mg "tuple" = none) (ml : mg "len" = none) : FnOk P w K mg base CX0 (k + 1) f fd ["thing", "many"] spTupOf := by
  refine F.ok scTupOf (fun vs H Q E h => ?_) (fun cdv A outer s H vs Q E hr h => ?_)
  · obtain ⟨v, o, m, rfl, _⟩ := h
    rfl
  · obtain ⟨v, o, m, rfl, t, q⟩ := h
    obtain ⟨n, ty, _, _, k3, _⟩ := t.kit (K := K)
    refine ⟨_, pss_one (ps_ret (pe_and (pe_callB call_isi (by rfl) mi (by decide +kernel) (pa_cons (pv 0) (pa_cons (pe_bltn (v := .ty "tuple") (by rfl) mtup (by decide +kernel) rfl) pa_nil))) (pe_one (pe_cmpR op_eq (pe_callB call_len_seq (by rfl) ml (by decide +kernel) (pa_cons (pv 0) pa_nil)) (pv 1) (nomark _))))), ?_⟩
    refine ⟨v, rfl, v, .ty "tuple", _, _, _, rfl, .ty "tuple", ty, kit_ty k3, _, rfl, ite2 (fun e => ?_) (fun e => ?_)⟩
    · obtain ⟨xs, rfl⟩ : ∃ xs, o = some xs := by
        cases o with
        | none => cases (show false = true from e)
        | some xs => exact ⟨xs, rfl⟩
      obtain ⟨a, rfl, ea⟩ := t.some_tup
      refine ⟨.ref a, rfl, a, xs, rfl, .inr (.inl (.inl ea)), .int m, rfl, rfl, ?_⟩
      have z : decide (V.int (xs.length : Nat) = V.int m) = lenIs (some xs) m := by
        show _ = decide _
        by_cases y : (xs.length : Int) = m <;> simp [y]
      rw [z]
      exact q
    · have z : false = lenIs o m := by
        cases o with
        | none => rfl
        | some xs => exact absurd rfl e
      show Q (V.bl false) H
      rw [z]
      exact q
abbrev NCo : List Str := ["pick", "i", "j", "xs", "ys"]
theorem scComes : FnScope NCo ["pick", "i", "j"] (defScope sComes) := ⟨rfl, rfl, rfl, by decide +kernel, rfl, by decide +kernel, by decide +kernel⟩
def crI (xs : List Int) (i j : Nat) : Int := if xs.getD j 0 ≤ (i : Int) then 0 else 2
def ccI (ys : List Int) (i j : Nat) : Int := if ys.getD i 0 ≤ (j : Int) then 1 else 3
def spComes : Sp := fun vs H Q _ => ∃ (t : Addr) (a b i j : Nat) (xs ys : List Int), vs = [.ref t, .int (i : Int), .int (j : Int)] ∧ PickAt H t a b xs ys ∧ i < a ∧ j < b ∧
  ∀ H' T, Same H H' → H T = none → H' T = some (.tup [.int (crI xs i j), .int (ccI ys i j)]) → Q (.ref T) H'
theorem ok_comes {f : Addr} {fd : FuncData} {k : Nat} (F : Fun K "comes" "comes" sComes f fd) : FnOk P w K mg base CX0 (k + 1) f fd ["pick", "i", "j"] spComes := by
  refine F.ok scComes (fun vs H Q E h => ?_) (fun cdv A outer s H vs Q E hr h => ?_)
  · obtain ⟨t, a, b, i, j, xs, ys, rfl, _⟩ := h
    rfl
  · obtain ⟨t, a, b, i, j, xs, ys, rfl, ⟨tx, ty, h1, h2, h3, l1, l2, u1, u2⟩, hi, hj, q⟩ := h
    have nd := scComes.nd
    refine ⟨_, pss_cons (ps_asg (pv 0) (pg_tup rfl (pgs_cons (pg_name (i := 3) nd rfl (.inl rfl)) (pgs_cons (pg_name (i := 4) nd rfl (.inl rfl)) pgs_nil))))
      (pss_one (ps_ret (pe_tup (pa_cons (pe_ifExp (pt_cmpR op_le (pe_ix ix_tup (pv 3) (pv 2) (fun _ _ => rfl)) (pv 1) (nomark _)) pe_int pe_int) (pa_cons (pe_ifExp (pt_cmpR op_le (pe_ix ix_tup (pv 4) (pv 1) (fun _ _ => rfl)) (pv 2) (nomark _)) pe_int pe_int) pa_nil))))), ?_⟩
    refine ⟨.ref t, rfl, t, _, rfl, .inl (.inl h1), rfl, _, _, rfl, _, _, rfl, rfl, ?_⟩
    have fin : ∀ T, H T = none → Q (.ref T) (upd H T (.tup [.int (crI xs i j), .int (ccI ys i j)])) := fun T nT => q _ T (same_upd nT) nT upd_same
    unfold crI ccI at fin
    refine ⟨.ref tx, rfl, .int (j : Int), rfl, tx, _, _, _, rfl, rfl, .inl (.inl h2), atD (by omega), .int (i : Int), rfl, _, _, rfl, rfl, _, rfl, ite2 (fun e => ?_) (fun e => ?_)⟩
    · rw [if_pos (of_decide_eq_true e)] at fin
      refine ⟨.ref ty, rfl, .int (i : Int), rfl, ty, _, _, _, rfl, rfl, .inl (.inl h3), atD (by omega), .int (j : Int), rfl, _, _, rfl, rfl, _, rfl, ite2 (fun e => ?_) (fun e => ?_)⟩
      · rw [if_pos (of_decide_eq_true e)] at fin
        exact ⟨by show 2 ≤ sizeLine; decide, fin⟩
      · rw [if_neg (fun z => e (decide_eq_true z))] at fin
        exact ⟨by show 2 ≤ sizeLine; decide, fin⟩
    · rw [if_neg (fun z => e (decide_eq_true z))] at fin
      refine ⟨.ref ty, rfl, .int (i : Int), rfl, ty, _, _, _, rfl, rfl, .inl (.inl h3), atD (by omega), .int (j : Int), rfl, _, _, rfl, rfl, _, rfl, ite2 (fun e => ?_) (fun e => ?_)⟩
      · rw [if_pos (of_decide_eq_true e)] at fin
        exact ⟨by show 2 ≤ sizeLine; decide, fin⟩
      · rw [if_neg (fun z => e (decide_eq_true z))] at fin
        exact ⟨by show 2 ≤ sizeLine; decide, fin⟩
end
end C2

namespace C2
set_option Elab.async false
set_option linter.all false
set_option maxRecDepth 100000
set_option maxHeartbeats 4000000
open PySem PySem.Spec PyProof.Rows L2
/-! ### the program's search, as a function -/
theorem upto_at {m : Nat} {vs : List Int} {i : Nat} (h : Upto m vs) (hi : i < vs.length) : 0 ≤ vs.getD i 0 ∧ vs.getD i 0 ≤ (m : Int) := by
  rw [List.getD_eq_getElem?_getD, List.getElem?_eq_getElem hi]
  exact h _ (List.getElem_mem hi)
section
variable {P : Program} {w : World} {K : PySem.W.Frag} {mg : Str → Option Value} {base : Heap}
theorem scSizeP : FnScope ["pick", "xs", "ys"] ["pick"] (defScope sSizeP) := ⟨rfl, rfl, rfl, by decide +kernel, rfl, by decide +kernel, by decide +kernel⟩
def spSizeP : Sp := fun vs H Q _ => ∃ (t : Addr) (a b : Nat) (xs ys : List Int), vs = [.ref t] ∧ PickAt H t a b xs ys ∧ ∀ H' T, Same H H' → H T = none → H' T = some (.tup [.int (a : Int), .int (b : Int)]) → Q (.ref T) H'
theorem ok_sizep {f : Addr} {fd : FuncData} {k : Nat} (F : Fun K "size_of_pick" "size_of_pick" sSizeP f fd) (ml : mg "len" = none) : FnOk P w K mg base CX0 (k + 1) f fd ["pick"] spSizeP := by
  refine F.ok scSizeP (fun vs H Q E h => ?_) (fun cdv A outer s H vs Q E hr h => ?_)
  · obtain ⟨t, a, b, xs, ys, rfl, _⟩ := h
    rfl
  · obtain ⟨t, a, b, xs, ys, rfl, ⟨tx, ty, h1, h2, h3, l1, l2, u1, u2⟩, q⟩ := h
    have nd := scSizeP.nd
    refine ⟨_, pss_cons (ps_asg (pv 0) (pg_tup rfl (pgs_cons (pg_name (i := 1) nd rfl (.inl rfl)) (pgs_cons (pg_name (i := 2) nd rfl (.inl rfl)) pgs_nil))))
      (pss_one (ps_ret (pe_tup (pa_cons (pe_callB call_len_seq (by rfl) ml PySem.boot_len (pa_cons (pv 2) pa_nil)) (pa_cons (pe_callB call_len_seq (by rfl) ml PySem.boot_len (pa_cons (pv 1) pa_nil)) pa_nil))))), ?_⟩
    refine ⟨.ref t, rfl, t, _, rfl, .inl (.inl h1), rfl, _, _, rfl, _, _, rfl, rfl, ?_⟩
    refine ⟨.ref ty, rfl, ty, _, rfl, .inr (.inl (.inl h3)), .ref tx, rfl, tx, _, rfl, .inr (.inl (.inl h2)), by show 2 ≤ sizeLine; decide, fun T nT => ?_⟩
    refine q _ T (same_upd nT) nT ?_
    rw [upd_same, List.length_map, List.length_map, l1, l2]
end
end C2

namespace C2
set_option Elab.async false
set_option linter.all false
set_option maxRecDepth 100000
set_option maxHeartbeats 1000000
open PySem PySem.Spec PyProof.Rows L2
/-! ### things: data of any kind -/
/-- all that was tracked, but what stands in E, is as it was -/
def FrX (E : Addr → Prop) (H H' : Hp) : Prop := ∀ b o, ¬ E b → H b = some o → H' b = some o
theorem FrX.same {E : Addr → Prop} {H H' : Hp} (s : Same H H') : FrX E H H' := fun b o _ h => s b o h
theorem FrX.one {p : Addr} {H H' : Hp} (f : Fr p H H') : FrX (· = p) H H' := f
mutual
/-- the thing v holds the data d, and no part of it stands in E -/
inductive Dq (E : Addr → Prop) (H : Hp) : V → PyData → Prop
  | non : Dq E H .non .none
  | bl (b : Bool) : Dq E H (.bl b) (.bool b)
  | int (i : Int) : Dq E H (.int i) (.int i)
  | str (x : Str) : Dq E H (.str x) (.str x)
  | lst {a : Addr} {xs : List V} {ds : List PyData} (e : H a = some (.lst xs)) (n : ¬ E a) (h : DqAll E H xs ds) : Dq E H (.ref a) (.list ds)
  | tup {a : Addr} {xs : List V} {ds : List PyData} (e : H a = some (.tup xs)) (n : ¬ E a) (h : DqAll E H xs ds) : Dq E H (.ref a) (.tuple ds)
inductive DqAll (E : Addr → Prop) (H : Hp) : List V → List PyData → Prop
  | nil : DqAll E H [] []
  | cons {v : V} {vs : List V} {d : PyData} {ds : List PyData} (h : Dq E H v d) (t : DqAll E H vs ds) : DqAll E H (v :: vs) (d :: ds)
end
mutual
theorem Dq.fr {E : Addr → Prop} {H H' : Hp} (f : FrX E H H') : ∀ (d : PyData) {v : V}, Dq E H v d → Dq E H' v d
  | .none, _, h => by cases h; exact .non
  | .bool b, _, h => by cases h; exact .bl b
  | .int i, _, h => by cases h; exact .int i
  | .str x, _, h => by cases h; exact .str x
  | .list ds, _, h => by
    cases h with
    | lst e n t => exact .lst (f _ _ n e) n (DqAll.fr f ds t)
  | .tuple ds, _, h => by
    cases h with
    | tup e n t => exact .tup (f _ _ n e) n (DqAll.fr f ds t)
  | .dict kvs, _, h => by cases h
theorem DqAll.fr {E : Addr → Prop} {H H' : Hp} (f : FrX E H H') : ∀ (ds : List PyData) {vs : List V}, DqAll E H vs ds → DqAll E H' vs ds
  | [], _, h => by cases h; exact .nil
  | d :: ds, _, h => by
    cases h with
    | cons x t => exact .cons (Dq.fr f d x) (DqAll.fr f ds t)
end
theorem DqAll.len {E : Addr → Prop} {H : Hp} : ∀ {ds : List PyData} {vs : List V}, DqAll E H vs ds → vs.length = ds.length
  | [], _, h => by cases h; rfl
  | d :: ds, _, h => by
    cases h with
    | cons x t => rw [List.length_cons, List.length_cons, DqAll.len t]
theorem DqAll.app {E : Addr → Prop} {H : Hp} : ∀ {ds es : List PyData} {vs ws : List V}, DqAll E H vs ds → DqAll E H ws es → DqAll E H (vs ++ ws) (ds ++ es)
  | [], _, _, _, h, t => by cases h; exact t
  | d :: ds, _, _, _, h, t => by
    cases h with
    | cons x y => exact .cons x (DqAll.app y t)
theorem DqAll.nth {E : Addr → Prop} {H : Hp} : ∀ {ds : List PyData} {vs : List V} {v : V}, DqAll E H vs ds → v ∈ vs → ∃ d, d ∈ ds ∧ Dq E H v d
  | [], _, _, h, e => by cases h; cases e
  | d :: ds, _, v, h, e => by
    cases h with
    | cons x y =>
      rcases List.mem_cons.mp e with rfl | e
      · exact ⟨d, List.mem_cons_self, x⟩
      · obtain ⟨d', h1, h2⟩ := DqAll.nth y e
        exact ⟨d', List.mem_cons_of_mem _ h1, h2⟩
theorem DqAll.take {E : Addr → Prop} {H : Hp} : ∀ {ds : List PyData} {vs : List V} (n : Nat), DqAll E H vs ds → DqAll E H (vs.take n) (ds.take n)
  | [], _, n, h => by cases h; simp; exact .nil
  | d :: ds, _, 0, h => .nil
  | d :: ds, _, n + 1, h => by
    cases h with
    | cons x y => exact .cons x (DqAll.take n y)
theorem DqAll.drop {E : Addr → Prop} {H : Hp} : ∀ {ds : List PyData} {vs : List V} (n : Nat), DqAll E H vs ds → DqAll E H (vs.drop n) (ds.drop n)
  | [], _, n, h => by cases h; simp; exact .nil
  | d :: ds, _, 0, h => h
  | d :: ds, _, n + 1, h => by
    cases h with
    | cons x y => exact DqAll.drop n y
theorem DqAll.rev {E : Addr → Prop} {H : Hp} : ∀ {ds : List PyData} {vs : List V}, DqAll E H vs ds → DqAll E H vs.reverse ds.reverse
  | [], _, h => by cases h; exact .nil
  | d :: ds, _, h => by
    cases h with
    | cons x y =>
      rw [List.reverse_cons, List.reverse_cons]
      exact (DqAll.rev y).app (.cons x .nil)
theorem DqAll.ints {E : Addr → Prop} {H : Hp} : ∀ vs : List Int, DqAll E H (vs.map V.int) (vs.map PyData.int)
  | [] => .nil
  | v :: r => .cons (.int v) (DqAll.ints r)
/-- a thing and its items -/
theorem Dq.thg {E : Addr → Prop} {H : Hp} {v : V} {d : PyData} (h : Dq E H v d) : ∃ o, Thg H v o ∧ ∀ xs, o = some xs → ∃ ds, d = .tuple ds ∧ DqAll E H xs ds := by
  cases h with
  | non => exact ⟨none, .non, fun _ e => nomatch e⟩
  | bl b => exact ⟨none, .bl b, fun _ e => nomatch e⟩
  | int i => exact ⟨none, .int i, fun _ e => nomatch e⟩
  | str x => exact ⟨none, .str x, fun _ e => nomatch e⟩
  | lst e n t => exact ⟨none, .lst e, fun _ e => nomatch e⟩
  | tup e n t => exact ⟨_, .tup e, fun xs e => by cases e; exact ⟨_, rfl, t⟩⟩
section
variable {X : Cx} {pins : List (Addr × Obj)} {σ : L2.St} {H : Hp} {s : Shared}
mutual
theorem Dq.reads {E : Addr → Prop} (I : Inv X pins σ H s) : ∀ (d : PyData) {v : V} {u : Value}, Dq E H v d → RelV v u → ∃ as, Reads s.heap u d as
  | .none, _, _, h, r => by cases h; cases r; exact ⟨[], .none⟩
  | .bool b, _, _, h, r => by cases h; cases r; exact ⟨[], .bool b⟩
  | .int i, _, _, h, r => by
    cases h
    obtain ⟨t, rfl⟩ := r
    exact ⟨[], .int i t⟩
  | .str x, _, _, h, r => by
    cases h
    obtain ⟨t, rfl⟩ := r
    exact ⟨[], .str x t⟩
  | .list ds, _, _, h, r => by
    cases h with
    | lst e n t =>
      cases r
      obtain ⟨us, rv, ⟨ob, m, g, c, _, dt⟩, _⟩ := I.list (.inl (.inl e))
      obtain ⟨as, rd⟩ := DqAll.reads I ds t rv
      exact ⟨_, .list g c dt rd⟩
  | .tuple ds, _, _, h, r => by
    cases h with
    | tup e n t =>
      cases r
      obtain ⟨us, rv, ⟨ob, g, c, m, dt⟩, _⟩ := I.tuple (.inl (.inl e))
      obtain ⟨as, rd⟩ := DqAll.reads I ds t rv
      exact ⟨_, .tuple g c dt rd⟩
  | .dict kvs, _, _, h, r => by cases h
theorem DqAll.reads {E : Addr → Prop} (I : Inv X pins σ H s) : ∀ (ds : List PyData) {vs : List V} {us : List Value}, DqAll E H vs ds → Vals vs us → ∃ as, ReadsAll s.heap us ds as
  | [], _, _, h, r => by cases h; cases r; exact ⟨[], .nil⟩
  | d :: ds, _, _, h, r => by
    cases h with
    | cons x t =>
      cases r with
      | cons rx rt =>
        obtain ⟨as, a1⟩ := Dq.reads I d x rx
        obtain ⟨bs, b1⟩ := DqAll.reads I ds t rt
        exact ⟨_, .cons a1 b1⟩
end
/-- repr of a thing, or of an empty dict -/
def rReprQ : List V → Hp → VK → Prop := fun xs G Q => (∃ (E : Addr → Prop) (v : V) (d : PyData), xs = [v] ∧ Dq E G v d ∧ d.showable = true ∧ d.hasDict = false ∧ d.depth ≤ 60 ∧ d.shown.length ≤ sizeLine ∧ Q (.str d.shown) G) ∨
  ∃ a, xs = [.ref a] ∧ G a = some (.dK []) ∧ Q (.str (PyData.dict []).shown) G
theorem call_reprQ (room : X.A.units + 64 < cLine) (hgd : X.A.guards = some []) : CallR X (.builtin "repr") rReprQ := by
  intro pins s σ G xs us Q I r h
  rcases h with ⟨p, v, d, rfl, hd, sh, nod, dp, ln, q⟩ | ⟨a, rfl, e, q⟩
  rotate_left
  · obtain ⟨u, rfl, rel⟩ := vals1 r
    cases rel
    obtain ⟨_, ns, vs, kv, o, es, ep, g, xd, dt, _, prs, _⟩ := dk_of I.hok e
    cases kv
    have e0 : es.toList = [] := by
      cases q : es.toList with
      | nil => rfl
      | cons y ys => rw [q] at prs; cases prs
    have rd : Reads s.heap (.ref a) (.dict []) ([a] ++ [] ++ []) := .dict (kvs := []) (as := []) (bs := []) g xd.1 dt (by rw [e0]; exact .nil) (by rw [e0]; exact .nil)
    have d2 : PyData.depth (.dict []) ≤ 2 := by decide
    refine repr_of_reads' rd (by decide) (fun _ z => ?_) hgd (by omega) (fun _ _ e => e) (fun h' t tk kp => ⟨.str _, G, I.kept (t' := tk) kp, ⟨_, rfl⟩, q⟩) (by decide)
    simp at z
    exact beq_eq_false_iff_ne.mp ns z.symm
  obtain ⟨u, rfl, rel⟩ := vals1 r
  cases d with
  | none =>
    cases hd
    cases rel
    exact PySem.P.repr_of_none ⟨.str "None", G, I.tok _, ⟨_, rfl⟩, q⟩
  | bool b =>
    cases hd
    cases rel
    refine PySem.P.repr_of_bool ⟨.str (if b then "True" else "False"), G, I.tok _, ⟨_, rfl⟩, ?_⟩
    cases b <;> exact q
  | int i =>
    cases hd
    obtain ⟨t, rfl⟩ := rel
    exact PySem.P.repr_of_int (of_decide_eq_true sh) ⟨.str (toString i), G, I.tok _, ⟨_, rfl⟩, q⟩
  | str x =>
    cases hd
    obtain ⟨t, rfl⟩ := rel
    exact PySem.P.repr_of_str ⟨.str (reprText x), G, I.tok _, ⟨_, rfl⟩, q⟩ ln
  | list ds =>
    obtain ⟨as, rd⟩ := Dq.reads I _ hd rel
    cases hd
    cases rel
    exact repr_of_reads' rd sh (fun z => by rw [nod] at z; cases z) hgd (by omega) (fun _ _ e => e) (fun h' t tk kp => ⟨.str _, G, I.kept (t' := tk) kp, ⟨_, rfl⟩, q⟩) ln
  | tuple ds =>
    obtain ⟨as, rd⟩ := Dq.reads I _ hd rel
    cases hd
    cases rel
    exact repr_of_reads' rd sh (fun z => by rw [nod] at z; cases z) hgd (by omega) (fun _ _ e => e) (fun h' t tk kp => ⟨.str _, G, I.kept (t' := tk) kp, ⟨_, rfl⟩, q⟩) ln
  | dict kvs => cases hd
end
end C2

namespace C2
set_option Elab.async false
set_option linter.all false
set_option maxRecDepth 100000
set_option maxHeartbeats 1000000
open PySem PySem.Spec PyProof.Rows L2 HT
/-! ### small data -/
structure Oq (d : PyData) (dp wt : Nat) : Prop where
  sh : PyData.showable d = true
  hd : PyData.hasDict d = false
  ls : PyData.leavesShort 40 d = true
  dp : PyData.depth d ≤ dp
  wt : PyData.weight d ≤ wt
theorem Oq.mono {d : PyData} {dp wt dp' wt' : Nat} (h : Oq d dp wt) (a : dp ≤ dp') (b : wt ≤ wt') : Oq d dp' wt' := ⟨h.sh, h.hd, h.ls, Nat.le_trans h.dp a, Nat.le_trans h.wt b⟩
theorem Oq.all {dp wt : Nat} : ∀ {ds : List PyData}, (∀ d ∈ ds, Oq d dp wt) → PyData.showableAll ds = true ∧ PyData.hasDictAll ds = false ∧ PyData.leavesShortAll 40 ds = true ∧ PyData.depthAll ds ≤ dp ∧ PyData.weightAll ds ≤ (wt + 1) * ds.length
  | [], _ => ⟨by simp [PyData.showableAll], by simp [PyData.hasDictAll], by simp [PyData.leavesShortAll], by simp [PyData.depthAll], by simp [PyData.weightAll]⟩
  | d :: ds, h => by
    obtain ⟨i1, i2, i3, i4, i5⟩ := Oq.all (ds := ds) fun x hx => h x (List.mem_cons_of_mem _ hx)
    obtain ⟨j1, j2, j3, j4, j5⟩ := h d List.mem_cons_self
    refine ⟨?_, ?_, ?_, ?_, ?_⟩ <;> simp only [PyData.showableAll, PyData.hasDictAll, PyData.leavesShortAll, PyData.depthAll, PyData.weightAll, i1, i2, i3, j1, j2, j3]
    · rfl
    · rfl
    · rfl
    · omega
    · rw [List.length_cons, Nat.mul_succ]; omega
theorem Oq.tup {ds : List PyData} {dp wt n : Nat} (h : ∀ d ∈ ds, Oq d dp wt) (l : ds.length ≤ n) : Oq (.tuple ds) (dp + 1) ((wt + 1) * n) := by
  obtain ⟨i1, i2, i3, i4, i5⟩ := Oq.all h
  have m : (wt + 1) * ds.length ≤ (wt + 1) * n := Nat.mul_le_mul_left _ l
  refine ⟨?_, ?_, ?_, ?_, ?_⟩ <;> simp only [PyData.showable, PyData.hasDict, PyData.leavesShort, PyData.depth, PyData.weight, i1, i2, i3]
  · omega
  · omega
theorem Oq.lst {ds : List PyData} {dp wt n : Nat} (h : ∀ d ∈ ds, Oq d dp wt) (l : ds.length ≤ n) : Oq (.list ds) (dp + 1) ((wt + 1) * n) := by
  obtain ⟨i1, i2, i3, i4, i5⟩ := Oq.all h
  have m : (wt + 1) * ds.length ≤ (wt + 1) * n := Nat.mul_le_mul_left _ l
  refine ⟨?_, ?_, ?_, ?_, ?_⟩ <;> simp only [PyData.showable, PyData.hasDict, PyData.leavesShort, PyData.depth, PyData.weight, i1, i2, i3]
  · omega
  · omega
def okL (d : PyData) : Bool := PyData.showable d && !PyData.hasDict d && PyData.leavesShort 40 d && decide (PyData.depth d ≤ 0) && decide (PyData.weight d ≤ 100)
theorem okL.oq {d : PyData} (h : okL d = true) : Oq d 0 100 := by
  unfold okL at h
  simp only [Bool.and_eq_true, decide_eq_true_eq, Bool.not_eq_true'] at h
  exact ⟨h.1.1.1.1, h.1.1.1.2, h.1.1.2, h.1.2, h.2⟩
theorem okL_upto : ((List.range 64).all fun n => okL (.int (n : Int))) = true := by decide +kernel
theorem okL_nat {n : Nat} (h : n < 64) : okL (.int (n : Int)) = true := List.all_eq_true.mp okL_upto n (List.mem_range.mpr h)
theorem oq_int {v : Int} (h0 : 0 ≤ v) (h1 : v < 64) : Oq (.int v) 0 100 := by
  have e := okL_nat (n := v.toNat) (by omega)
  rw [Int.toNat_of_nonneg h0] at e
  exact okL.oq e
theorem oq_less : Oq (.int (-1)) 0 100 := okL.oq (by decide +kernel)
theorem oq_great : Oq (.int ((10 : Int) ^ (29 : Int).toNat)) 0 100 := okL.oq (by decide +kernel)
theorem oq_bl (b : Bool) : Oq (.bool b) 0 100 := okL.oq (by cases b <;> decide +kernel)
theorem oq_non : Oq .none 0 100 := okL.oq (by decide +kernel)
theorem oq_str0 : Oq (.str "0") 0 100 := okL.oq (by decide +kernel)
theorem oq_void : Oq (.str "") 0 100 := okL.oq (by decide +kernel)
theorem oq_ints {m : Nat} (hm : m ≤ 41) {vs : List Int} (h : Upto m vs) : ∀ d ∈ vs.map PyData.int, Oq d 0 100 := fun d hd => by
  obtain ⟨v, hv, rfl⟩ := List.mem_map.mp hd
  have := h v hv
  exact oq_int this.1 (by omega)
/-! ### things -/
def TG (E : Addr → Prop) (H : Hp) (v : V) (d : PyData) : Prop := Dq E H v d ∨ (d = .dict [] ∧ ∃ a, v = .ref a ∧ H a = some (.dK []) ∧ ¬ E a)
def TF (E : Addr → Prop) (H : Hp) (v : V) (d : PyData) : Prop := (Dq E H v d ∧ Oq d 4 30000) ∨ (d = .dict [] ∧ ∃ a, v = .ref a ∧ H a = some (.dK []) ∧ ¬ E a)
theorem TF.tg {E : Addr → Prop} {H : Hp} {v : V} {d : PyData} (h : TF E H v d) : TG E H v d := h.elim (fun x => .inl x.1) .inr
theorem TF.fr {E : Addr → Prop} {H H' : Hp} {v : V} {d : PyData} (h : TF E H v d) (f : FrX E H H') : TF E H' v d := by
  rcases h with ⟨h, o⟩ | ⟨e, a, ea, h, n⟩
  · exact .inl ⟨h.fr f, o⟩
  · exact .inr ⟨e, a, ea, f _ _ n h, n⟩
theorem TG.thg {E : Addr → Prop} {H : Hp} {v : V} {d : PyData} (h : TG E H v d) : ∃ o, Thg H v o ∧ (∀ xs, o = some xs → ∃ ds, d = .tuple ds ∧ DqAll E H xs ds) ∧ (o = none → ∀ ds, d ≠ .tuple ds) := by
  rcases h with h | ⟨rfl, a, rfl, e, n⟩
  · cases h with
    | non => exact ⟨none, .non, (fun _ e => nomatch e), (fun _ _ e => nomatch e)⟩
    | bl b => exact ⟨none, .bl b, (fun _ e => nomatch e), (fun _ _ e => nomatch e)⟩
    | int i => exact ⟨none, .int i, (fun _ e => nomatch e), (fun _ _ e => nomatch e)⟩
    | str x => exact ⟨none, .str x, (fun _ e => nomatch e), (fun _ _ e => nomatch e)⟩
    | lst e n t => exact ⟨none, .lst e, (fun _ e => nomatch e), (fun _ _ e => nomatch e)⟩
    | tup e n t => exact ⟨_, .tup e, (fun xs e => by cases e; exact ⟨_, rfl, t⟩), (fun e => nomatch e)⟩
  · exact ⟨none, .dK e, (fun _ e => nomatch e), (fun _ _ e => nomatch e)⟩
theorem TF.repr {E : Addr → Prop} {G : Hp} {v : V} {d : PyData} {Q : VK} (h : TF E G v d) (q : Q (.str d.shown) G) : rReprQ [v] G Q := by
  rcases h with ⟨h, o⟩ | ⟨rfl, a, rfl, e, n⟩
  · have z := PyData.shown_le 40 (by decide) d o.ls
    have s : 4000000 ≤ sizeLine := by decide
    have w := o.wt
    exact .inl ⟨E, v, d, rfl, h, o.sh, o.hd, Nat.le_trans o.dp (by decide), by omega, q⟩
  · exact .inr ⟨a, rfl, e, q⟩
/-! ### tuples: +, slices, backwards, list(..) -/
/-- a tuple of data -/
def TupD (E : Addr → Prop) (H : Hp) (a : Addr) (ds : List PyData) : Prop := ∃ xs, H a = some (.tup xs) ∧ ¬ E a ∧ DqAll E H xs ds
theorem TupD.fr {E : Addr → Prop} {H H' : Hp} {a : Addr} {ds : List PyData} (h : TupD E H a ds) (f : FrX E H H') : TupD E H' a ds := by
  obtain ⟨xs, e, n, t⟩ := h
  exact ⟨xs, f _ _ n e, n, t.fr f⟩
theorem TupD.dq {E : Addr → Prop} {H : Hp} {a : Addr} {ds : List PyData} (h : TupD E H a ds) : Dq E H (.ref a) (.tuple ds) := by
  obtain ⟨xs, e, n, t⟩ := h
  exact .tup e n t
section
variable {K : PySem.W.Frag} {E : Addr → Prop} {G : Hp} {Q : VK} {n : Nat}
theorem cat_ok {a b : Addr} {ds es : List PyData} (out : ∀ c, G c = none → ¬ E c) (ha : TupD E G a ds) (hb : TupD E G b es) (few : ds.length + es.length ≤ 1000) (q : ∀ c G', Same G G' → TupD E G' c (ds ++ es) → Q (.ref c) G') : rCatA K (.ref a) (.ref b) G Q := by
  obtain ⟨xs, ea, na, ta⟩ := id ha
  obtain ⟨ys, eb, nb, tb⟩ := id hb
  have lx := ta.len
  have ly := tb.len
  refine ⟨a, b, xs, ys, rfl, rfl, .inl (.inl ea), .inl (.inl eb), Nat.le_trans (show xs.length + ys.length ≤ 1000 by omega) (by decide), fun z => ?_, fun _ z => ?_, fun _ _ c nc => ?_⟩
  · subst z
    cases ta
    exact q b G (Same.refl _) hb
  · subst z
    cases tb
    rw [List.append_nil] at q
    exact q a G (Same.refl _) ha
  · have s := same_upd (o := .tup (xs ++ ys)) nc
    exact q c _ s ⟨_, upd_same, out c nc, (ta.app tb).fr (FrX.same s)⟩
theorem cut_sub {α : Type} (xs : List α) (i j : Nat) : ((xs.drop i).take j).Sublist xs := (List.take_sublist _ _).trans (List.drop_sublist _ _)
theorem sl_ok {a : Addr} {ds : List PyData} {lo hi : Option Int} (out : ∀ c, G c = none → ¬ E c) (ha : TupD E G a ds) (q : ∀ c G' es, Same G G' → TupD E G' c es → es.Sublist ds → Q (.ref c) G') : rSlA K (.ref a) lo hi G Q := by
  obtain ⟨xs, ea, na, ta⟩ := id ha
  refine ⟨a, xs, rfl, .inl (.inl ea), fun _ => q a G ds (Same.refl _) ha (List.Sublist.refl _), fun _ c nc => ?_⟩
  have s := same_upd (o := .tup (cutV xs lo hi)) nc
  refine q c _ _ s ⟨_, upd_same, out c nc, ?_⟩ (cut_sub ds (sIx xs.length 0 lo) (sIx xs.length xs.length hi - sIx xs.length 0 lo))
  exact ((ta.drop _).take _).fr (FrX.same s)
end
end C2

namespace C2
set_option Elab.async false
set_option linter.all false
set_option maxRecDepth 100000
set_option maxHeartbeats 1000000
open PySem PySem.Spec PyProof.Rows L2 HT
def btD (hi : Int) : PyData → Bool
  | .int i => decide (0 ≤ i ∧ i ≤ hi)
  | _ => false
theorem bt_eq {E : Addr → Prop} {H : Hp} {v : V} {d : PyData} {hi : Int} (h : Dq E H v d) : betw v 0 hi = btD hi d := by
  cases h <;> rfl
section
variable {P : Program} {w : World} {K : PySem.W.Frag} {mg : Str → Option Value} {base : Heap}
/-- all(..) over a tuple -/
theorem all_tup {te : TE} {σ : L2.St} {G : Hp} {Q : VK} {i s : Nat} {a : Addr} {xs : List V} {R : V → Bool} (ha : σ[i]? = some (some (.ref a))) (hx : G a = some (.tup xs)) (hw : ∀ v, wipe ((wipe σ [s]).set s (some v)) [s] = wipe σ [s])
    (hte : ∀ (v : V) (G1 : Hp) (Q' : VK), v ∈ xs → Same G G1 → (∀ (B : Bool) G', B = R v → Same G1 G' → Q' (.bl B) G') → te ((wipe σ [s]).set s (some v)) G1 Q') (few : xs.length < sizeLine)
    (q : ∀ (B : Bool) G', B = xs.all R → Same G G' → Q (.bl B) G') : tCB (rAll K) (tCons (tLc (iTup K (tVar i)) (gName s) tYes te [s]) tNil) σ G Q := by
  refine ⟨_, ha, a, rfl, ⟨_, .inl (.inl hx)⟩, fun D nD => ?_⟩
  refine lc_tup (xs := xs) (fun m G' => Same G G' ∧ G' D = some (.lst (((xs.take m).map R).map V.bl))) ⟨same_upd nD, upd_same⟩ (fun m G' _ h => .inl (.inl (h.1 _ _ hx))) ?_ ?_
  · rintro m v G' hv ⟨sm, hD⟩
    refine ⟨hw _, ?_⟩
    simp only [tYes, ↓reduceIte]
    have hm : m < xs.length := (List.getElem?_eq_some_iff.mp hv).1
    refine hte v G' _ (List.mem_of_getElem? hv) sm fun B G2 e s2 => ⟨_, s2 _ _ hD, ?_, ?_, ?_⟩
    · rw [List.length_map, List.length_map, List.length_take]
      omega
    · intro b' o e'
      rw [upd_ne (ne_of_none e' nD)]
      exact s2 _ _ (sm _ _ e')
    · rw [upd_same, List.take_add_one, hv, List.map_append, List.map_append, e]
      rfl
  · rintro G' ⟨sm, hD⟩
    rw [List.take_length] at hD
    refine ⟨D, xs.map R, rfl, .inl (.inl hD), ?_⟩
    refine q _ _ ?_ sm
    rw [List.all_map]
    rfl
end
theorem both_of {c : Bool} {ta tb : TE} {σ : L2.St} {H : Hp} {K1 : VK} (C : V → Hp → Prop) (hk : ∀ x H', C x H' → K1 x H') (ha : (∀ x H', C x H' → K1 x H') → c = true → ta σ H K1) (hb : (∀ x H', C x H' → K1 x H') → ¬ c = true → tb σ H K1) : if c = true then ta σ H K1 else tb σ H K1 := by
  by_cases e : c = true
  · rw [if_pos e]; exact ha hk e
  · rw [if_neg e]; exact hb hk e
mutual
/-- another place where nothing stands -/
theorem Dq.more {E : Addr → Prop} {H : Hp} {l : Addr} (nl : H l = none) : ∀ (d : PyData) {v : V}, Dq E H v d → Dq (fun a => E a ∨ a = l) H v d
  | .none, _, h => by cases h; exact .non
  | .bool b, _, h => by cases h; exact .bl b
  | .int i, _, h => by cases h; exact .int i
  | .str x, _, h => by cases h; exact .str x
  | .list ds, _, h => by
    cases h with
    | lst e n t => exact .lst e (fun z => z.elim n (ne_of_none e nl)) (DqAll.more nl ds t)
  | .tuple ds, _, h => by
    cases h with
    | tup e n t => exact .tup e (fun z => z.elim n (ne_of_none e nl)) (DqAll.more nl ds t)
  | .dict kvs, _, h => by cases h
theorem DqAll.more {E : Addr → Prop} {H : Hp} {l : Addr} (nl : H l = none) : ∀ (ds : List PyData) {vs : List V}, DqAll E H vs ds → DqAll (fun a => E a ∨ a = l) H vs ds
  | [], _, h => by cases h; exact .nil
  | d :: ds, _, h => by
    cases h with
    | cons x t => exact .cons (Dq.more nl d x) (DqAll.more nl ds t)
end
mutual
theorem Dq.less {E F : Addr → Prop} {H : Hp} (f : ∀ a, F a → E a) : ∀ (d : PyData) {v : V}, Dq E H v d → Dq F H v d
  | .none, _, h => by cases h; exact .non
  | .bool b, _, h => by cases h; exact .bl b
  | .int i, _, h => by cases h; exact .int i
  | .str x, _, h => by cases h; exact .str x
  | .list ds, _, h => by
    cases h with
    | lst e n t => exact .lst e (fun z => n (f _ z)) (DqAll.less f ds t)
  | .tuple ds, _, h => by
    cases h with
    | tup e n t => exact .tup e (fun z => n (f _ z)) (DqAll.less f ds t)
  | .dict kvs, _, h => by cases h
theorem DqAll.less {E F : Addr → Prop} {H : Hp} (f : ∀ a, F a → E a) : ∀ (ds : List PyData) {vs : List V}, DqAll E H vs ds → DqAll F H vs ds
  | [], _, h => by cases h; exact .nil
  | d :: ds, _, h => by
    cases h with
    | cons x t => exact .cons (Dq.less f d x) (DqAll.less f ds t)
end
/-- things of some size -/
def Thgs (E : Addr → Prop) (H : Hp) (vs : List V) (dp wt : Nat) : Prop := ∀ v ∈ vs, ∃ d, Dq E H v d ∧ Oq d dp wt
theorem Thgs.fr {E : Addr → Prop} {H H' : Hp} {vs : List V} {dp wt : Nat} (h : Thgs E H vs dp wt) (f : FrX E H H') : Thgs E H' vs dp wt := fun v hv => by
  obtain ⟨d, a, b⟩ := h v hv
  exact ⟨d, a.fr f, b⟩
theorem Thgs.nil {E : Addr → Prop} {H : Hp} {dp wt : Nat} : Thgs E H [] dp wt := fun v hv => nomatch hv
theorem Thgs.cons {E : Addr → Prop} {H : Hp} {v : V} {vs : List V} {d : PyData} {dp wt : Nat} (h : Dq E H v d) (o : Oq d dp wt) (t : Thgs E H vs dp wt) : Thgs E H (v :: vs) dp wt := fun x hx => by
  rcases List.mem_cons.mp hx with rfl | hx
  · exact ⟨d, h, o⟩
  · exact t x hx
/-- each of these places holds a list -/
def LstN (N : Addr → Prop) (G : Hp) : Prop := ∀ x, N x → ∃ zs, G x = some (.lst zs)
theorem LstN.same {N : Addr → Prop} {G G' : Hp} (h : LstN N G) (s : Same G G') : LstN N G' := fun x nx => by
  obtain ⟨zs, e⟩ := h x nx
  exact ⟨zs, s _ _ e⟩
theorem LstN.fr {N : Addr → Prop} {G G' : Hp} {p : Addr} {n : Nat} (h : LstN N G) (f : Fr p G G') (hp : PotAt G' p n) : LstN N G' := fun x nx => by
  by_cases e : x = p
  · obtain ⟨g, c, u, z, _⟩ := hp
    exact ⟨_, e ▸ z⟩
  · obtain ⟨zs, z⟩ := h x nx
    exact ⟨zs, f _ _ e z⟩
theorem LstN.out {N : Addr → Prop} {G : Hp} (h : LstN N G) (c : Addr) (nc : G c = none) : ¬ N c := fun z => by
  obtain ⟨zs, e⟩ := h c z
  rw [nc] at e
  cases e
theorem LstN.tup {N : Addr → Prop} {G : Hp} {c : Addr} {us : List V} (h : LstN N G) (nc : G c = some (.tup us)) : ¬ N c := fun z => by
  obtain ⟨zs, e⟩ := h c z
  rw [nc] at e
  cases e
theorem FrX.of {N : Addr → Prop} {p : Addr} {H H' : Hp} (f : Fr p H H') (np : N p) : FrX N H H' := fun b o nb h => f b o (fun z => nb (z ▸ np)) h
theorem tcons_run {te : TE} {ta : TA} {σ : L2.St} {H : Hp} {R : List V → Hp → Prop} (h : te σ H fun v H1 => ta σ H1 fun vs H2 => R (v :: vs) H2) : tCons te ta σ H R := h
theorem TF.more {E : Addr → Prop} {H : Hp} {l : Addr} {v : V} {d : PyData} (h : TF E H v d) (nl : H l = none) : TF (fun a => E a ∨ a = l) H v d := by
  rcases h with ⟨h, o⟩ | ⟨e, a, ea, h, n⟩
  · exact .inl ⟨h.more nl, o⟩
  · exact .inr ⟨e, a, ea, h, fun z => z.elim n (ne_of_none h nl)⟩
theorem TF.less {E F : Addr → Prop} {H : Hp} {v : V} {d : PyData} (h : TF E H v d) (f : ∀ a, F a → E a) : TF F H v d := by
  rcases h with ⟨h, o⟩ | ⟨e, a, ea, h, n⟩
  · exact .inl ⟨h.less f, o⟩
  · exact .inr ⟨e, a, ea, h, fun z => n (f _ z)⟩
/-- things, an empty dict among them perhaps -/
def Tfs (N : Addr → Prop) (G : Hp) (vs : List V) : Prop := ∀ v ∈ vs, ∃ d, TF N G v d
theorem Tfs.fr {N : Addr → Prop} {G G' : Hp} {vs : List V} (h : Tfs N G vs) (f : FrX N G G') : Tfs N G' vs := fun v hv => by
  obtain ⟨d, x⟩ := h v hv
  exact ⟨d, x.fr f⟩
theorem Tfs.nil {N : Addr → Prop} {G : Hp} : Tfs N G [] := fun v hv => nomatch hv
theorem Tfs.cons {N : Addr → Prop} {G : Hp} {v : V} {vs : List V} {d : PyData} (h : TF N G v d) (t : Tfs N G vs) : Tfs N G (v :: vs) := fun x hx => by
  rcases List.mem_cons.mp hx with rfl | hx
  · exact ⟨d, h⟩
  · exact t x hx
theorem Tfs.app {N : Addr → Prop} {G : Hp} {vs ws : List V} (h : Tfs N G vs) (t : Tfs N G ws) : Tfs N G (vs ++ ws) := fun x hx => (List.mem_append.mp hx).elim (h x) (t x)
theorem Tfs.more {E : Addr → Prop} {H : Hp} {l : Addr} {vs : List V} (h : Tfs E H vs) (nl : H l = none) : Tfs (fun a => E a ∨ a = l) H vs := fun v hv => by
  obtain ⟨d, x⟩ := h v hv
  exact ⟨d, x.more nl⟩
theorem Tfs.less {E F : Addr → Prop} {H : Hp} {vs : List V} (h : Tfs E H vs) (f : ∀ a, F a → E a) : Tfs F H vs := fun v hv => by
  obtain ⟨d, x⟩ := h v hv
  exact ⟨d, x.less f⟩
theorem LstN.more {N : Addr → Prop} {G : Hp} {l : Addr} {zs : List V} (h : LstN N G) (e : G l = some (.lst zs)) : LstN (fun a => N a ∨ a = l) G := fun x hx => hx.elim (h x) fun z => ⟨zs, z ▸ e⟩
theorem lstOne {p : Addr} {G : Hp} {n : Nat} (h : PotAt G p n) : LstN (· = p) G := fun x hx => by
  obtain ⟨g, c, u, z, _⟩ := h
  exact ⟨_, hx ▸ z⟩
theorem bl_repr {G : Hp} {Q : VK} {B : Bool} (q : Q (.str (PyData.bool B).shown) G) : rReprQ [.bl B] G Q :=
  TF.repr (E := fun _ => False) (d := .bool B) (.inl ⟨.bl B, (oq_bl B).mono (by decide) (by decide)⟩) q
theorem two_strs (B : Bool) : SeqAt.shaped (.list [.str (PyData.bool B).shown, .str (PyData.bool B).shown]) = true ∧ PyData.eqv (.list [.str (PyData.bool B).shown, .str (PyData.bool B).shown]) (.list [.str (PyData.bool B).shown, .str (PyData.bool B).shown]) = true := by
  cases B <;> exact ⟨by decide +kernel, by decide +kernel⟩
/-- repr by what it shows -/
def rReprW : List V → Hp → VK → Prop := fun xs G Q => ∃ S : Str, (∀ R : VK, R (.str S) G → rReprQ xs G R) ∧ Q (.str S) G
theorem call_reprW {X : Cx} (room : X.A.units + 64 < cLine) (hgd : X.A.guards = some []) : CallR X (.builtin "repr") rReprW := by
  intro pins s σ G xs us R I r h
  obtain ⟨S, f, q⟩ := h
  exact call_reprQ room hgd pins s σ G xs us R I r (f R q)
end C2

namespace C2
set_option Elab.async false
set_option linter.all false
set_option maxRecDepth 100000
set_option maxHeartbeats 1000000
open PySem PySem.Spec PyProof.Rows L2
abbrev dT (x : List Int) : PyData := .tuple (x.map PyData.int)
abbrev dTT (L : List (List Int)) : PyData := .tuple (L.map dT)
theorem dpAll (K : PySem.W.Frag) (G : Hp) : ∀ x : List Int, DpAll K G (x.map V.int) (x.map PyData.int)
  | [] => .nil
  | v :: r => .cons (.int v) (dpAll K G r)
theorem eqv_ints : ∀ x y : List Int, PyData.eqvAll (x.map PyData.int) (y.map PyData.int) = decide (x = y)
  | [], [] => by simp [PyData.eqvAll]
  | [], b :: s => by simp [PyData.eqvAll]
  | a :: r, [] => by simp [PyData.eqvAll]
  | a :: r, b :: s => by
    simp only [List.map_cons, PyData.eqvAll, PyData.eqv, eqv_ints r s, List.cons.injEq]
    by_cases h : a = b <;> simp [h]
theorem eqvT (x y : List Int) : PyData.eqv (dT x) (dT y) = decide (x = y) := by
  show PyData.eqv (.tuple _) (.tuple _) = _
  simp only [PyData.eqv]
  exact eqv_ints x y
theorem shapedT (ns : List Int) : SeqAt.shaped (dT ns) = true := by
  have c : ∀ xs : List Int, PyData.canLayAll0 (xs.map PyData.int) = true ∧ PyData.depthAll (xs.map PyData.int) = 0 := by
    intro xs
    induction xs with
    | nil => exact ⟨by simp [PyData.canLayAll0], by simp [PyData.depthAll]⟩
    | cons x r ih => exact ⟨by simp [PyData.canLayAll0, PyData.canLay0, ih.1], by simp [PyData.depthAll, PyData.depth, ih.2]⟩
  unfold SeqAt.shaped
  have e1 : PyData.canLay0 (dT ns) = true := by show PyData.canLay0 (.tuple _) = true; simp [PyData.canLay0, (c ns).1]
  have e2 : PyData.depth (dT ns) = 1 := by show PyData.depth (.tuple _) = 1; simp [PyData.depth, (c ns).2]
  rw [e1, e2]
  rfl
/-- whether it is a mill: the eight legs -/
def isMillB (xs ys : List Int) (i k j l : Nat) (turn : Int) : Bool :=
  let rj : Int := if turn = 1 then 0 else 2
  let ck : Int := if turn = 1 then 1 else 3
  let rl : Int := if turn = 1 then 2 else 0
  let ci : Int := if turn = 1 then 3 else 1
  (decide ([crI xs i j, ccI ys i j] = [rj, ci]) && decide ([crI xs k j, ccI ys k j] = [rj, ck])) && (decide ([crI xs i l, ccI ys i l] = [rl, ci]) && decide ([crI xs k l, ccI ys k l] = [rl, ck]))
/-! ### looks at anything -/
def ltD : PyData → PyData → Bool
  | .int i, .int k => decide (i < k)
  | _, _ => false
def pairD (m : Int) (x y : PyData) : Bool := btD (m - 1) x && (btD (m - 1) y && ltD x y)
def turnD : PyData → Bool
  | .int t => decide (t = 1 ∨ t = -1)
  | _ => false
def intD : PyData → Int
  | .int t => t
  | _ => 0
def isIntD : PyData → Bool
  | .int _ => true
  | _ => false
def millD (xs ys : List Int) (a b : Nat) : PyData → Bool
  | .tuple [x1, x2, x3, x4, x5] => pairD a x1 x2 && (pairD b x3 x4 && (turnD x5 && isMillB xs ys (intD x1).toNat (intD x2).toNat (intD x3).toNat (intD x4).toNat (intD x5)))
  | _ => false
theorem millD_no {xs ys : List Int} {a b : Nat} {d : PyData} (h : ∀ x1 x2 x3 x4 x5, d ≠ .tuple [x1, x2, x3, x4, x5]) : millD xs ys a b d = false := by
  cases d with
  | tuple ds =>
    match ds with
    | [] | [_] | [_, _] | [_, _, _] | [_, _, _, _] => rfl
    | [x1, x2, x3, x4, x5] => exact absurd rfl (h x1 x2 x3 x4 x5)
    | _ :: _ :: _ :: _ :: _ :: _ :: _ => rfl
  | _ => rfl
theorem btD_int {hi : Int} {d : PyData} (h : btD hi d = true) : ∃ i : Nat, d = .int (i : Int) ∧ (i : Int) ≤ hi := by
  cases d with
  | int i =>
    have z : 0 ≤ i ∧ i ≤ hi := of_decide_eq_true h
    exact ⟨i.toNat, by rw [Int.toNat_of_nonneg z.1], by omega⟩
  | _ => cases h
theorem pairD_yes {m : Nat} {x y : PyData} (h : pairD m x y = true) : ∃ i k : Nat, x = .int (i : Int) ∧ y = .int (k : Int) ∧ i < k ∧ k < m := by
  unfold pairD at h
  rw [Bool.and_eq_true, Bool.and_eq_true] at h
  obtain ⟨i, rfl, hi⟩ := btD_int h.1
  obtain ⟨k, rfl, hk⟩ := btD_int h.2.1
  have z : (i : Int) < (k : Int) := of_decide_eq_true h.2.2
  exact ⟨i, k, rfl, rfl, by omega, by omega⟩
theorem pairD_mk {m i k : Nat} (ik : i < k) (km : k < m) : pairD m (.int (i : Int)) (.int (k : Int)) = true := by
  show (decide _ && (decide _ && decide _)) = true
  rw [decide_eq_true (by omega), decide_eq_true (by omega), decide_eq_true (by omega)]
  rfl
theorem Dq.int_of {E : Addr → Prop} {H : Hp} {v : V} {i : Int} (h : Dq E H v (.int i)) : v = .int i := by
  cases h
  rfl
section
variable {P : Program} {w : World} {K : PySem.W.Frag} {mg : Str → Option Value} {base : Heap}
theorem scPairB : FnScope ["one", "other", "many"] ["one", "other", "many"] (defScope sPairB) := ⟨rfl, rfl, rfl, by decide +kernel, rfl, by decide +kernel, by decide +kernel⟩
def spPairB : Sp := fun vs H Q _ => ∃ (E : Addr → Prop) (u v : V) (x y : PyData) (m : Int), vs = [u, v, .int m] ∧ Dq E H u x ∧ Dq E H v y ∧ ∀ B : Bool, B = pairD m x y → Q (.bl B) H
theorem ok_pairb {f fW fB : Addr} {fd fdW fdB : FuncData} {k : Nat} (F : Fun K "is_pair_below" "is_pair_below" sPairB f fd) (FW : Fun K "is_whole" "is_whole" sPWhole fW fdW) (FB : Fun K "is_between" "is_between" sBetween fB fdB) (bW : Binds K fdW ["thing"] []) (bB : Binds K fdB ["thing", "least", "most"] []) (gW : mg "is_whole" = some (.ref fW)) (gB : mg "is_between" = some (.ref fB))
    (mi : mg "isinstance" = none) (mint : mg "int" = none) (mbool : mg "bool" = none) : FnOk P w K mg base CX0 (k + 3) f fd ["one", "other", "many"] spPairB := by
  have GB : FnOk P w K mg base CX0 (k + 2) fB fdB ["thing", "least", "most"] spBetween := ok_between FB FW bW gW mi mint mbool
  refine F.ok scPairB (fun vs H Q E h => ?_) (fun cdv A outer s H vs Q E hr h => ?_)
  · obtain ⟨N, u, v, x, y, m, rfl, _⟩ := h
    rfl
  · obtain ⟨N, u, v, x, y, m, rfl, hx, hy, q⟩ := h
    refine ⟨_, pss_one (ps_ret (pe_and (pe_call GB hr (by rfl) gB FB.kp bB .nil pass0 (pa_cons (pv 0) (pa_cons pe_int (pa_cons (pe_op op_sub (pv 2) pe_int) pa_nil)))) (pe_and (pe_call GB hr (by rfl) gB FB.kp bB .nil pass0 (pa_cons (pv 1) (pa_cons pe_int (pa_cons (pe_op op_sub (pv 2) pe_int) pa_nil)))) (pe_one (pe_cmpR op_lt (pv 0) (pv 1) (nomark _)))))), ?_⟩
    obtain ⟨ox, tx, _⟩ := hx.thg
    obtain ⟨oy, ty, _⟩ := hy.thg
    have ex := bt_eq (hi := m - 1) hx
    have ey := bt_eq (hi := m - 1) hy
    refine ⟨u, rfl, .int m, rfl, _, _, rfl, rfl, u, ox, 0, m - 1, rfl, tx, _, rfl, ite2 (fun e => ?_) (fun e => ?_)⟩
    · refine ⟨v, rfl, .int m, rfl, _, _, rfl, rfl, v, oy, 0, m - 1, rfl, ty, _, rfl, ite2 (fun e' => ?_) (fun e' => ?_)⟩
      · rw [ex] at e
        rw [ey] at e'
        obtain ⟨i, rfl, _⟩ := btD_int e
        obtain ⟨k, rfl, _⟩ := btD_int e'
        cases hx.int_of
        cases hy.int_of
        refine ⟨.int (i : Int), rfl, .int (k : Int), rfl, _, _, rfl, rfl, q _ ?_⟩
        show _ = (_ && (_ && _))
        rw [e, e']
        rfl
      · refine q _ ?_
        rw [ey] at e'
        show _ = (_ && (_ && _))
        rw [Bool.eq_false_iff.mpr e', Bool.false_and, Bool.and_false]
    · refine q _ ?_
      rw [ex] at e
      show _ = (_ && (_ && _))
      rw [Bool.eq_false_iff.mpr e, Bool.false_and]
abbrev NIm : List Str := ["pick", "thing", "i", "k", "j", "l", "turn", "a", "b", "row_j", "column_k", "row_l", "column_i", "lower", "upper"]
theorem scIsMill : FnScope NIm ["pick", "thing"] (defScope sIsMill) := ⟨rfl, rfl, rfl, by decide +kernel, rfl, by decide +kernel, by decide +kernel⟩
def spIsMill : Sp := fun vs H Q _ => ∃ (t : Addr) (N : Addr → Prop) (v : V) (d : PyData) (a b : Nat) (xs ys : List Int), vs = [.ref t, v] ∧ PickAt H t a b xs ys ∧ TG N H v d ∧
  ∀ (B : Bool) H', B = millD xs ys a b d → Same H H' → Q (.bl B) H'
/-- comes(..) == (x, y), with what follows -/
theorem eq2 {G : Hp} {T U : Addr} {u v x y : Int} (hT : G T = some (.tup [.int u, .int v])) (hU : G U = some (.tup [.int x, .int y])) : ∃ d e, Dp K G (.ref T) d ∧ Dp K G (.ref U) e ∧ SeqAt.shaped d = true ∧ SeqAt.shaped e = true ∧ PyData.eqv d e = decide ([u, v] = [x, y]) :=
  ⟨dT [u, v], dT [x, y], .tup (.inl (.inl hT)) (dpAll K G [u, v]), .tup (.inl (.inl hU)) (dpAll K G [x, y]), shapedT _, shapedT _, eqvT _ _⟩
def tTwo (K : PySem.W.Frag) (c1 r l1 c2 : Nat) : TE := tAndV (tOp (rEqD K) (tCall spComes [] E0 (tCons (tVar 0) (tCons (tVar 2) (tCons (tVar r) tNil)))) (tTup (tCons (tVar l1) (tCons (tVar c1) tNil)))) (tOp (rEqD K) (tCall spComes [] E0 (tCons (tVar 0) (tCons (tVar 3) (tCons (tVar r) tNil)))) (tTup (tCons (tVar l1) (tCons (tVar c2) tNil))))
theorem two_ok {σ : L2.St} {G : Hp} {Q : VK} {t : Addr} {a b i k j c1 r l1 c2 : Nat} {u v w : Int} {xs ys : List Int} (h0 : σ[0]? = some (some (.ref t))) (h2 : σ[2]? = some (some (.int (i : Int)))) (h3 : σ[3]? = some (some (.int (k : Int)))) (hr : σ[r]? = some (some (.int (j : Int)))) (hl : σ[l1]? = some (some (.int u))) (hc : σ[c1]? = some (some (.int v))) (hd : σ[c2]? = some (some (.int w)))
    (pk : PickAt G t a b xs ys) (hi : i < a) (hk : k < a) (hj : j < b) (q : ∀ (B : Bool) G', B = (decide ([crI xs i j, ccI ys i j] = [u, v]) && decide ([crI xs k j, ccI ys k j] = [u, w])) → Same G G' → Q (.bl B) G') : tTwo K c1 r l1 c2 σ G Q := by
  refine ⟨.ref t, h0, .int (i : Int), h2, .int (j : Int), hr, t, a, b, i, j, xs, ys, rfl, pk, hi, hj, fun G1 A1 sg1 na1 ha1 => ⟨.int u, hl, .int v, hc, by show 2 ≤ sizeLine; decide, fun B1 nb1 => ?_⟩⟩
  have sb1 := same_upd (o := .tup [.int u, .int v]) nb1
  obtain ⟨d, e, p1, p2, p3, p4, p5⟩ := eq2 (K := K) (sb1 _ _ ha1) (upd_same (H := G1) (a := B1) (o := .tup [.int u, .int v]))
  refine ⟨d, e, p1, p2, p3, p4, ?_⟩
  rw [p5]
  generalize decide ([crI xs i j, ccI ys i j] = [u, v]) = A0 at q
  refine ⟨A0, rfl, ite2 (fun y => ?_) (fun y => ?_)⟩
  · have s2 := sg1.trans sb1
    refine ⟨.ref t, h0, .int (k : Int), h3, .int (j : Int), hr, t, a, b, k, j, xs, ys, rfl, pk.same s2, hk, hj, fun G2 A2 sg2 na2 ha2 => ⟨.int u, hl, .int w, hd, by show 2 ≤ sizeLine; decide, fun B2 nb2 => ?_⟩⟩
    have sb2 := same_upd (o := .tup [.int u, .int w]) nb2
    obtain ⟨d, e, p1, p2, p3, p4, p5⟩ := eq2 (K := K) (sb2 _ _ ha2) (upd_same (H := G2) (a := B2) (o := .tup [.int u, .int w]))
    refine ⟨d, e, p1, p2, p3, p4, ?_⟩
    rw [p5]
    exact q _ _ (by rw [y, Bool.true_and]) (s2.trans (sg2.trans sb2))
  · exact q _ _ (by rw [Bool.eq_false_iff.mpr y, Bool.false_and]) (sg1.trans sb1)
theorem ok_ismill {f fW fB fU fS fP fM cF cB : Addr} {fd fdW fdB fdU fdS fdP fdM : FuncData} {k : Nat} (F : Fun K "is_mill" "is_mill" sIsMill f fd) (FW : Fun K "is_whole" "is_whole" sPWhole fW fdW) (FB : Fun K "is_between" "is_between" sBetween fB fdB) (FU : Fun K "is_tuple_of" "is_tuple_of" sTupOf fU fdU) (FS : Fun K "size_of_pick" "size_of_pick" sSizeP fS fdS) (FP : Fun K "is_pair_below" "is_pair_below" sPairB fP fdP) (FM : Fun K "comes" "comes" sComes fM fdM)
    (bW : Binds K fdW ["thing"] []) (bB : Binds K fdB ["thing", "least", "most"] []) (bU : Binds K fdU ["thing", "many"] []) (bS : Binds K fdS ["pick"] []) (bP : Binds K fdP ["one", "other", "many"] []) (bM : Binds K fdM ["pick", "i", "j"] []) (gW : mg "is_whole" = some (.ref fW)) (gB : mg "is_between" = some (.ref fB)) (gU : mg "is_tuple_of" = some (.ref fU)) (gS : mg "size_of_pick" = some (.ref fS)) (gP : mg "is_pair_below" = some (.ref fP)) (gM : mg "comes" = some (.ref fM))
    (gF : mg "LEGS_FORTH" = some (.ref cF)) (gK : mg "LEGS_BACK" = some (.ref cB)) (hF : ∀ G : Hp, SqT K G cF [.int 0, .int 1, .int 2, .int 3]) (hB : ∀ G : Hp, SqT K G cB [.int 2, .int 3, .int 0, .int 1])
    (mi : mg "isinstance" = none) (mint : mg "int" = none) (mbool : mg "bool" = none) (mtup : mg "tuple" = none) (ml : mg "len" = none) : FnOk P w K mg base CX0 (k + 4) f fd ["pick", "thing"] spIsMill := by
  have GW : FnOk P w K mg base CX0 1 fW fdW ["thing"] spPWhole := ok_pwhole FW mi mint mbool
  have GU : FnOk P w K mg base CX0 1 fU fdU ["thing", "many"] spTupOf := ok_tupOf FU mi mtup ml
  have GS : FnOk P w K mg base CX0 1 fS fdS ["pick"] spSizeP := ok_sizep FS ml
  have GP : FnOk P w K mg base CX0 (k + 3) fP fdP ["one", "other", "many"] spPairB := ok_pairb FP FW FB bW bB gW gB mi mint mbool
  have GM : FnOk P w K mg base CX0 1 fM fdM ["pick", "i", "j"] spComes := ok_comes FM
  refine F.ok scIsMill (fun vs H Q E h => ?_) (fun cdv A outer s H vs Q E hr h => ?_)
  · obtain ⟨t, N, v, d, a, b, xs, ys, rfl, _⟩ := h
    rfl
  · obtain ⟨t, N, vv, d, a, b, xs, ys, rfl, pk, tg, q0⟩ := h
    have nd := scIsMill.nd
    refine ⟨_, pss_cons (ps_if (pt_not (pt_val (pe_call GU (hr.mono (by omega)) (by rfl) gU FU.kp bU .nil pass0 (pa_cons (pv 1) (pa_cons pe_int pa_nil))))) (pss_one (ps_ret pe_bl)) pss_nil)
      (pss_cons (ps_asg (pv 1) (pg_tup rfl (pgs_cons (pg_name (i := 2) nd rfl (.inl rfl)) (pgs_cons (pg_name (i := 3) nd rfl (.inl rfl)) (pgs_cons (pg_name (i := 4) nd rfl (.inl rfl)) (pgs_cons (pg_name (i := 5) nd rfl (.inl rfl)) (pgs_cons (pg_name (i := 6) nd rfl (.inl rfl)) pgs_nil)))))))
      (pss_cons (ps_asg (pe_call GS (hr.mono (by omega)) (by rfl) gS FS.kp bS .nil pass0 (pa_cons (pv 0) pa_nil)) (pg_tup rfl (pgs_cons (pg_name (i := 7) nd rfl (.inl rfl)) (pgs_cons (pg_name (i := 8) nd rfl (.inl rfl)) pgs_nil))))
      (pss_cons (ps_if (pt_not (PW.pt (pw_and (pt_val (pe_call GP hr (by rfl) gP FP.kp bP .nil pass0 (pa_cons (pv 2) (pa_cons (pv 3) (pa_cons (pv 7) pa_nil))))) (pw_and (pt_val (pe_call GP hr (by rfl) gP FP.kp bP .nil pass0 (pa_cons (pv 4) (pa_cons (pv 5) (pa_cons (pv 8) pa_nil))))) (pw_and (pt_val (pe_call GW (hr.mono (by omega)) (by rfl) gW FW.kp bW .nil pass0 (pa_cons (pv 6) pa_nil))) (pw_and1 (pt_cmpR op_in_seq (pv 6) (pe_tup (pa_cons pe_int (pa_cons (pe_un un_neg pe_int) pa_nil))) (by rfl)))))))) (pss_one (ps_ret pe_bl)) pss_nil)
      (pss_cons (ps_asg (pe_ifExp (pt_cmpR op_eq (pv 6) pe_int (nomark _)) (pe_glob (v := .ref cF) (by rfl) gF rfl) (pe_glob (v := .ref cB) (by rfl) gK rfl)) (pg_tup rfl (pgs_cons (pg_name (i := 9) nd rfl (.inl rfl)) (pgs_cons (pg_name (i := 10) nd rfl (.inl rfl)) (pgs_cons (pg_name (i := 11) nd rfl (.inl rfl)) (pgs_cons (pg_name (i := 12) nd rfl (.inl rfl)) pgs_nil))))))
      (pss_cons (ps_set (i := 13) nd rfl (.inl rfl) (pe_and (pe_cmpR (op_eqD hr.units) (pe_call GM (hr.mono (by omega)) (by rfl) gM FM.kp bM .nil pass0 (pa_cons (pv 0) (pa_cons (pv 2) (pa_cons (pv 4) pa_nil)))) (pe_tup (pa_cons (pv 9) (pa_cons (pv 12) pa_nil))) (nomark _)) (pe_one (pe_cmpR (op_eqD hr.units) (pe_call GM (hr.mono (by omega)) (by rfl) gM FM.kp bM .nil pass0 (pa_cons (pv 0) (pa_cons (pv 3) (pa_cons (pv 4) pa_nil)))) (pe_tup (pa_cons (pv 9) (pa_cons (pv 10) pa_nil))) (nomark _)))))
      (pss_cons (ps_set (i := 14) nd rfl (.inl rfl) (pe_and (pe_cmpR (op_eqD hr.units) (pe_call GM (hr.mono (by omega)) (by rfl) gM FM.kp bM .nil pass0 (pa_cons (pv 0) (pa_cons (pv 2) (pa_cons (pv 5) pa_nil)))) (pe_tup (pa_cons (pv 11) (pa_cons (pv 12) pa_nil))) (nomark _)) (pe_one (pe_cmpR (op_eqD hr.units) (pe_call GM (hr.mono (by omega)) (by rfl) gM FM.kp bM .nil pass0 (pa_cons (pv 0) (pa_cons (pv 3) (pa_cons (pv 5) pa_nil)))) (pe_tup (pa_cons (pv 11) (pa_cons (pv 10) pa_nil))) (nomark _)))))
      (pss_one (ps_ret (pe_and (pv 13) (pe_one (pv 14))))))))))), ?_⟩
    obtain ⟨o, thg, yes, no⟩ := tg.thg
    refine ⟨vv, rfl, vv, o, 5, rfl, thg, lenIs o 5, rfl, ite2 (fun e => ?_) (fun e => ?_)⟩
    · refine q0 _ _ ?_ (Same.refl _)
      refine (millD_no fun x1 x2 x3 x4 x5 z => ?_).symm
      cases o with
      | none => exact no rfl _ z
      | some zs =>
        obtain ⟨ds, rfl, da⟩ := yes zs rfl
        cases z
        have l := da.len
        have : lenIs (some zs) 5 = true := by
          show decide _ = true
          exact decide_eq_true (by rw [l]; rfl)
        rw [this] at e
        cases e
    have e' : lenIs o 5 = true := by simpa using e
    cases o with
    | none => cases e'
    | some zs =>
    obtain ⟨ds, rfl, da⟩ := yes zs rfl
    obtain ⟨th, rfl, ec⟩ := thg.some_tup
    have el : ((zs.length : Nat) : Int) = 5 := of_decide_eq_true e'
    have ll := da.len
    match zs, ds, da, el, ll with
    | [w1, w2, w3, w4, w5], [x1, x2, x3, x4, x5], .cons h1 (.cons h2 (.cons h3 (.cons h4 (.cons h5 .nil)))), _, _ =>
    refine ⟨.ref th, rfl, th, _, rfl, .inl (.inl ec), rfl, _, _, rfl, _, _, rfl, _, _, rfl, _, _, rfl, _, _, rfl, rfl, ?_⟩
    refine ⟨.ref t, rfl, t, a, b, xs, ys, rfl, pk, fun H1 T1 s1 n1 ht1 => ?_⟩
    refine ⟨T1, _, rfl, .inl (.inl ht1), rfl, _, _, rfl, _, _, rfl, rfl, ?_⟩
    have no1 : ∀ {G : Hp} {C : Bool}, C = false → Same H G → (C = millD xs ys a b (.tuple [x1, x2, x3, x4, x5])) → Q (.bl false) G := fun z sm w => q0 false _ (by rw [← w, z]) sm
    refine ⟨w1, rfl, w2, rfl, .int (a : Int), rfl, N, w1, w2, x1, x2, (a : Int), rfl, h1.fr (FrX.same s1), h2.fr (FrX.same s1), fun B1 e1 => ⟨B1, rfl, ite2 (fun c1 => ?_) (fun c1 => ?_)⟩⟩
    rotate_left
    · refine iteT (q0 _ _ ?_ s1)
      show _ = (_ && _)
      rw [← e1, Bool.eq_false_iff.mpr c1, Bool.false_and]
    refine ⟨w3, rfl, w4, rfl, .int (b : Int), rfl, N, w3, w4, x3, x4, (b : Int), rfl, h3.fr (FrX.same s1), h4.fr (FrX.same s1), fun B2 e2 => ⟨B2, rfl, ite2 (fun c2 => ?_) (fun c2 => ?_)⟩⟩
    rotate_left
    · refine iteT (q0 _ _ ?_ s1)
      show _ = (_ && (_ && _))
      rw [← e2, Bool.eq_false_iff.mpr c2, Bool.false_and, Bool.and_false]
    obtain ⟨i, k, rfl, rfl, hik, hka⟩ := pairD_yes (e1 ▸ c1)
    obtain ⟨j, l, rfl, rfl, hjl, hlb⟩ := pairD_yes (e2 ▸ c2)
    cases h1.int_of
    cases h2.int_of
    cases h3.int_of
    cases h4.int_of
    have m0 : millD xs ys a b (.tuple [.int (i : Int), .int (k : Int), .int (j : Int), .int (l : Int), x5]) = (turnD x5 && isMillB xs ys i k j l (intD x5)) := by
      show (_ && (_ && _)) = _
      rw [pairD_mk hik hka, pairD_mk hjl hlb, Bool.true_and, Bool.true_and]
      rfl
    obtain ⟨o5, t5, _⟩ := h5.thg
    refine ⟨w5, rfl, w5, o5, rfl, t5.same s1, _, rfl, ite2 (fun c3 => ?_) (fun c3 => ?_)⟩
    rotate_left
    · refine iteT (q0 _ _ ?_ s1)
      rw [m0]
      cases h5 with
      | int i => exact absurd rfl c3
      | _ => rfl
    obtain ⟨turn, rfl⟩ := isIn_int c3
    cases h5
    refine ⟨.int turn, rfl, 1, rfl, by show 2 ≤ sizeLine; decide, fun T2 n2 => ⟨T2, _, rfl, .inr (.inl (.inl upd_same)), rfl, rfl, _, rfl, ite2 (fun c4 => ?_) (fun c4 => ?_)⟩⟩
    · refine q0 _ _ ?_ (s1.trans (same_upd n2))
      rw [m0]
      have nt : ¬ (turn = 1 ∨ turn = -1) := fun z => by rcases z with rfl | rfl <;> exact absurd c4 (by decide)
      show _ = (decide _ && _)
      rw [decide_eq_false nt, Bool.false_and]
    have ht : turn = 1 ∨ turn = -1 := by
      by_cases z1 : turn = 1
      · exact .inl z1
      · by_cases z2 : turn = -1
        · exact .inr z2
        · refine absurd ?_ c4
          show (!(((1 : Int) == turn) || (((-1 : Int) == turn) || false))) = true
          rw [beq_eq_false_iff_ne.mpr (fun y => z1 y.symm), beq_eq_false_iff_ne.mpr (fun y => z2 y.symm)]
          rfl
    have q : ∀ H', Same H H' → Q (.bl (isMillB xs ys i k j l turn)) H' := fun H' sm => q0 _ _ (by
      rw [m0]
      show _ = (decide _ && _)
      rw [decide_eq_true ht, Bool.true_and]
      rfl) sm
    have s2 := same_upd (o := .tup [.int 1, .int (-1)]) n2
    have pk2 := (pk.same s1).same s2
    have s02 := s1.trans s2
    have core : ∀ (G : Hp) (rj ck rl ci : Int), Same H G → ((turn = 1 ∧ rj = 0 ∧ ck = 1 ∧ rl = 2 ∧ ci = 3) ∨ (turn = -1 ∧ rj = 2 ∧ ck = 3 ∧ rl = 0 ∧ ci = 1)) → isMillB xs ys i k j l turn = ((decide ([crI xs i j, ccI ys i j] = [rj, ci]) && decide ([crI xs k j, ccI ys k j] = [rj, ck])) && (decide ([crI xs i l, ccI ys i l] = [rl, ci]) && decide ([crI xs k l, ccI ys k l] = [rl, ck]))) := by
      intro G rj ck rl ci _ h
      rcases h with ⟨rfl, rfl, rfl, rfl, rfl⟩ | ⟨rfl, rfl, rfl, rfl, rfl⟩ <;> rfl
    rcases ht with rfl | rfl
    · have eq := core (upd H1 T2 (.tup [.int 1, .int (-1)])) 0 1 2 3 s02 (.inl ⟨rfl, rfl, rfl, rfl, rfl⟩)
      refine ⟨.int 1, rfl, rfl, _, rfl, ite2 (fun _ => ?_) (fun z => absurd (by decide) z)⟩
      refine ⟨cF, _, rfl, hF _, rfl, _, _, rfl, _, _, rfl, _, _, rfl, _, _, rfl, rfl, ?_⟩
      show tSeq (tAsg (tTwo K 12 4 9 10) (gName 13)) _ _ [some (.ref t), some (.ref th), some (.int (i : Int)), some (.int (k : Int)), some (.int (j : Int)), some (.int (l : Int)), some (.int 1), some (.int (a : Int)), some (.int (b : Int)), some (.int 0), some (.int 1), some (.int 2), some (.int 3), none, none] _
      refine seqAsg (two_ok (i := i) (k := k) (j := j) rfl rfl rfl rfl rfl rfl rfl pk2 (by omega) hka (by omega) fun B1 G3 e3 s3 => ?_)
      show tSeq (tAsg (tTwo K 12 5 11 10) (gName 14)) _ _ [some (.ref t), some (.ref th), some (.int (i : Int)), some (.int (k : Int)), some (.int (j : Int)), some (.int (l : Int)), some (.int 1), some (.int (a : Int)), some (.int (b : Int)), some (.int 0), some (.int 1), some (.int 2), some (.int 3), some (.bl B1), none] _
      refine seqAsg (two_ok (i := i) (k := k) (j := l) rfl rfl rfl rfl rfl rfl rfl (pk2.same s3) (by omega) hka hlb fun B2 G4 e4 s4 => ?_)
      rw [eq, ← e3, ← e4] at q
      refine ⟨.bl B1, rfl, B1, rfl, ite2 (fun y => ?_) (fun y => ?_)⟩
      · rw [y, Bool.true_and] at q
        exact ⟨.bl B2, rfl, q G4 (s02.trans (s3.trans s4))⟩
      · rw [Bool.eq_false_iff.mpr y, Bool.false_and] at q
        exact q G4 (s02.trans (s3.trans s4))
    · have eq := core (upd H1 T2 (.tup [.int 1, .int (-1)])) 2 3 0 1 s02 (.inr ⟨rfl, rfl, rfl, rfl, rfl⟩)
      refine ⟨.int (-1), rfl, rfl, _, rfl, ite2 (fun z => absurd z (by decide)) (fun _ => ?_)⟩
      refine ⟨cB, _, rfl, hB _, rfl, _, _, rfl, _, _, rfl, _, _, rfl, _, _, rfl, rfl, ?_⟩
      show tSeq (tAsg (tTwo K 12 4 9 10) (gName 13)) _ _ [some (.ref t), some (.ref th), some (.int (i : Int)), some (.int (k : Int)), some (.int (j : Int)), some (.int (l : Int)), some (.int (-1)), some (.int (a : Int)), some (.int (b : Int)), some (.int 2), some (.int 3), some (.int 0), some (.int 1), none, none] _
      refine seqAsg (two_ok (i := i) (k := k) (j := j) rfl rfl rfl rfl rfl rfl rfl pk2 (by omega) hka (by omega) fun B1 G3 e3 s3 => ?_)
      show tSeq (tAsg (tTwo K 12 5 11 10) (gName 14)) _ _ [some (.ref t), some (.ref th), some (.int (i : Int)), some (.int (k : Int)), some (.int (j : Int)), some (.int (l : Int)), some (.int (-1)), some (.int (a : Int)), some (.int (b : Int)), some (.int 2), some (.int 3), some (.int 0), some (.int 1), some (.bl B1), none] _
      refine seqAsg (two_ok (i := i) (k := k) (j := l) rfl rfl rfl rfl rfl rfl rfl (pk2.same s3) (by omega) hka hlb fun B2 G4 e4 s4 => ?_)
      rw [eq, ← e3, ← e4] at q
      refine ⟨.bl B1, rfl, B1, rfl, ite2 (fun y => ?_) (fun y => ?_)⟩
      · rw [y, Bool.true_and] at q
        exact ⟨.bl B2, rfl, q G4 (s02.trans (s3.trans s4))⟩
      · rw [Bool.eq_false_iff.mpr y, Bool.false_and] at q
        exact q G4 (s02.trans (s3.trans s4))
end
end C2

namespace C2
set_option Elab.async false
set_option linter.all false
set_option maxRecDepth 100000
set_option maxHeartbeats 1000000
open PySem PySem.Spec PyProof.Rows L2
def pairsN (n : Nat) : List (Nat × Nat) := (List.range n).flatMap fun i => (List.range (n - (i + 1))).map fun d => (i, i + 1 + d)
def pairV (p : Nat × Nat) : List V := [.int (p.1 : Int), .int (p.2 : Int)]
theorem pairsN_mem {n : Nat} {p : Nat × Nat} (h : p ∈ pairsN n) : p.1 < p.2 ∧ p.2 < n := by
  obtain ⟨i, hi, hp⟩ := List.mem_flatMap.mp h
  obtain ⟨d, hd, rfl⟩ := List.mem_map.mp hp
  have := List.mem_range.mp hi
  have := List.mem_range.mp hd
  constructor <;> show _ < _ <;> omega
def turnsOf (xs ys : List Int) (p q : Nat × Nat) : List Int := [(-1 : Int), 1].filter fun t => isMillB xs ys p.1 p.2 q.1 q.2 t
def five (p q : Nat × Nat) (t : Int) : List Int := [(p.1 : Int), (p.2 : Int), (q.1 : Int), (q.2 : Int), t]
def millsRow (xs ys : List Int) (b : Nat) (p : Nat × Nat) : List (List Int) := (pairsN b).flatMap fun q => (turnsOf xs ys p q).map (five p q)
def millsL (xs ys : List Int) (a b : Nat) : List (List Int) := (pairsN a).flatMap (millsRow xs ys b)
def vI (L : List (List Int)) : List (List V) := L.map fun x => x.map V.int
section
variable {P : Program} {w : World} {K : PySem.W.Frag} {mg : Str → Option Value} {base : Heap}
theorem scLComes : FnScope ["_law_chosen", "_law_i", "_law_j"] ["_law_chosen", "_law_i", "_law_j"] (defScope sLComes) := ⟨rfl, rfl, rfl, by decide +kernel, rfl, by decide +kernel, by decide +kernel⟩
theorem ok_lcomes {f : Addr} {fd : FuncData} {k : Nat} (F : Fun K "_law_comes" "_law_comes" sLComes f fd) : FnOk P w K mg base CX0 (k + 1) f fd ["_law_chosen", "_law_i", "_law_j"] spComes := by
  refine F.ok scLComes (fun vs H Q E h => ?_) (fun cdv A outer s H vs Q E hr h => ?_)
  · obtain ⟨t, a, b, i, j, xs, ys, rfl, _⟩ := h
    rfl
  · obtain ⟨t, a, b, i, j, xs, ys, rfl, ⟨tx, ty, h1, h2, h3, l1, l2, u1, u2⟩, hi, hj, q⟩ := h
    refine ⟨_, pss_one (ps_ret (pe_tup (pa_cons (pe_ifExp (pt_cmpR op_le (pe_ix ix_tup (pe_ix ix_tup (pv 0) pe_int (fun _ _ => rfl)) (pv 2) (fun _ _ => rfl)) (pv 1) (nomark _)) pe_int pe_int) (pa_cons (pe_ifExp (pt_cmpR op_le (pe_ix ix_tup (pe_ix ix_tup (pv 0) pe_int (fun _ _ => rfl)) (pv 1) (fun _ _ => rfl)) (pv 2) (nomark _)) pe_int pe_int) pa_nil)))), ?_⟩
    have fin : ∀ T, H T = none → Q (.ref T) (upd H T (.tup [.int (crI xs i j), .int (ccI ys i j)])) := fun T nT => q _ T (same_upd nT) nT upd_same
    unfold crI ccI at fin
    have t1 : SqT K H t [.ref tx, .ref ty] := .inl (.inl h1)
    refine ⟨.ref t, rfl, t, _, 0, .ref tx, rfl, rfl, t1, rfl, .int (j : Int), rfl, tx, _, _, _, rfl, rfl, .inl (.inl h2), atD (by omega), .int (i : Int), rfl, _, _, rfl, rfl, _, rfl, ite2 (fun e => ?_) (fun e => ?_)⟩
    · rw [if_pos (of_decide_eq_true e)] at fin
      refine ⟨.ref t, rfl, t, _, 1, .ref ty, rfl, rfl, t1, rfl, .int (i : Int), rfl, ty, _, _, _, rfl, rfl, .inl (.inl h3), atD (by omega), .int (j : Int), rfl, _, _, rfl, rfl, _, rfl, ite2 (fun e => ?_) (fun e => ?_)⟩
      · rw [if_pos (of_decide_eq_true e)] at fin
        exact ⟨by show 2 ≤ sizeLine; decide, fin⟩
      · rw [if_neg (fun z => e (decide_eq_true z))] at fin
        exact ⟨by show 2 ≤ sizeLine; decide, fin⟩
    · rw [if_neg (fun z => e (decide_eq_true z))] at fin
      refine ⟨.ref t, rfl, t, _, 1, .ref ty, rfl, rfl, t1, rfl, .int (i : Int), rfl, ty, _, _, _, rfl, rfl, .inl (.inl h3), atD (by omega), .int (j : Int), rfl, _, _, rfl, rfl, _, rfl, ite2 (fun e => ?_) (fun e => ?_)⟩
      · rw [if_pos (of_decide_eq_true e)] at fin
        exact ⟨by show 2 ≤ sizeLine; decide, fin⟩
      · rw [if_neg (fun z => e (decide_eq_true z))] at fin
        exact ⟨by show 2 ≤ sizeLine; decide, fin⟩
abbrev NLm : List Str := ["_law_chosen", "_law_i", "_law_k", "_law_j", "_law_l", "_law_turn", "_law_low", "_law_right", "_law_high", "_law_left", "_law_c", "_law_r"]
theorem scLMill : FnScope NLm ["_law_chosen", "_law_i", "_law_k", "_law_j", "_law_l", "_law_turn"] (defScope sLMill) := ⟨rfl, rfl, rfl, by decide +kernel, rfl, by decide +kernel, by decide +kernel⟩
def tCm (K : PySem.W.Frag) (x y : Nat) (n : Int) (s : Nat) : TE := tOp rEq (tOp (rIxT K) (tCall spComes [] E0 (tCons (tVar 0) (tCons (tVar x) (tCons (tVar y) tNil)))) (tC (V.int n))) (tVar s)
/-- the row's leg, the column's leg -/
def legAt (xs ys : List Int) (i j : Nat) (n : Int) : Int := if n = 0 then crI xs i j else ccI ys i j
theorem cm_ok {σ : L2.St} {G : Hp} {Q : VK} {t : Addr} {a b i j x y s : Nat} {n u : Int} {xs ys : List Int} (h0 : σ[0]? = some (some (.ref t))) (hx : σ[x]? = some (some (.int (i : Int)))) (hy : σ[y]? = some (some (.int (j : Int)))) (hs : σ[s]? = some (some (.int u))) (hn : n = 0 ∨ n = 1)
    (pk : PickAt G t a b xs ys) (hi : i < a) (hj : j < b) (q : ∀ (B : Bool) G', B = decide (legAt xs ys i j n = u) → Same G G' → Q (.bl B) G') : tCm K x y n s σ G Q := by
  refine ⟨.ref t, h0, .int (i : Int), hx, .int (j : Int), hy, t, a, b, i, j, xs, ys, rfl, pk, hi, hj, fun G1 T s1 nT hT => ?_⟩
  have sq : SqT K G1 T [.int (crI xs i j), .int (ccI ys i j)] := .inl (.inl hT)
  rcases hn with rfl | rfl
  · refine ⟨T, _, 0, .int (crI xs i j), rfl, rfl, sq, rfl, .int u, hs, rfl, ?_⟩
    refine q _ _ ?_ s1
    show decide (V.int (crI xs i j) = V.int u) = decide (crI xs i j = u)
    simp
  · refine ⟨T, _, 1, .int (ccI ys i j), rfl, rfl, sq, rfl, .int u, hs, rfl, ?_⟩
    refine q _ _ ?_ s1
    show decide (V.int (ccI ys i j) = V.int u) = decide (ccI ys i j = u)
    simp
theorem and2_ok {ta tb : TE} {σ : L2.St} {G : Hp} {Q : VK} {B1 B2 : Bool} (h1 : ∀ Q' : VK, (∀ (B : Bool) G', B = B1 → Same G G' → Q' (.bl B) G') → ta σ G Q') (h2 : ∀ (G1 : Hp) (Q' : VK), Same G G1 → (∀ (B : Bool) G', B = B2 → Same G1 G' → Q' (.bl B) G') → tb σ G1 Q')
    (q : ∀ (B : Bool) G', B = (B1 && B2) → Same G G' → Q (.bl B) G') : tAndV ta tb σ G Q := by
  refine h1 _ fun B G1 e s1 => ⟨B, rfl, ite2 (fun y => ?_) (fun y => ?_)⟩
  · refine h2 G1 _ s1 fun C G2 e2 s2 => q C G2 ?_ (s1.trans s2)
    rw [← e, ← e2, y, Bool.true_and]
  · refine q false G1 ?_ s1
    rw [← e, Bool.eq_false_iff.mpr y, Bool.false_and]
/-- all(..) over a pair -/
theorem all_pair {te : TE} {σ : L2.St} {G : Hp} {Q : VK} {c d s x y : Nat} {R : Nat → Bool} (hc : σ[c]? = some (some (.int (x : Int)))) (hd : σ[d]? = some (some (.int (y : Int)))) (hw : ∀ v, wipe ((wipe σ [s]).set s (some v)) [s] = wipe σ [s])
    (hte : ∀ (v : Nat) (G1 : Hp) (Q' : VK), (v = x ∨ v = y) → Same G G1 → (∀ (B : Bool) G', B = R v → Same G1 G' → Q' (.bl B) G') → te ((wipe σ [s]).set s (some (.int (v : Int)))) G1 Q')
    (q : ∀ (B : Bool) G', B = (R x && R y) → Same G G' → Q (.bl B) G') : tCB (rAll K) (tCons (tLc (iTup K (tTup (tCons (tVar c) (tCons (tVar d) tNil)))) (gName s) tYes te [s]) tNil) σ G Q := by
  refine ⟨_, hc, _, hd, by show 2 ≤ sizeLine; decide, fun T nT => ⟨T, rfl, ⟨_, .inl (.inl upd_same)⟩, fun D nD => ?_⟩⟩
  have s1 := same_upd (o := .tup [.int (x : Int), .int (y : Int)]) nT
  refine lc_tup (xs := [.int (x : Int), .int (y : Int)]) (fun i G' => Same (upd G T (.tup [.int (x : Int), .int (y : Int)])) G' ∧ G' D = some (.lst ((([R x, R y] : List Bool).take i).map V.bl))) ⟨same_upd nD, upd_same⟩ (fun i G' _ h => .inl (.inl (h.1 _ _ upd_same))) ?_ ?_
  · rintro i v G' hv ⟨sm, hD⟩
    have i2 : i < 2 := (List.getElem?_eq_some_iff.mp hv).1
    obtain ⟨v', ev, hv', er⟩ : ∃ v' : Nat, v = .int (v' : Int) ∧ (v' = x ∨ v' = y) ∧ ([R x, R y] : List Bool).take (i + 1) = ([R x, R y] : List Bool).take i ++ [R v'] := by
      rcases (show i = 0 ∨ i = 1 by omega) with rfl | rfl
      · exact ⟨x, (Option.some.inj hv).symm, .inl rfl, rfl⟩
      · exact ⟨y, (Option.some.inj hv).symm, .inr rfl, rfl⟩
    subst ev
    refine ⟨hw _, ?_⟩
    simp only [tYes, ↓reduceIte]
    refine hte v' G' _ hv' (s1.trans sm) fun B G2 e s2 => ⟨_, s2 _ _ hD, ?_, ?_, ?_⟩
    · rw [List.length_map, List.length_take]
      exact Nat.lt_of_le_of_lt (Nat.min_le_left _ _) (Nat.lt_of_lt_of_le (show i < 1000 by omega) (by decide))
    · intro b' o e'
      rw [upd_ne (ne_of_none e' nD)]
      exact s2 _ _ (sm _ _ e')
    · rw [upd_same, er, List.map_append, e]
      rfl
  · rintro G' ⟨sm, hD⟩
    refine ⟨D, [R x, R y], rfl, .inl (.inl hD), ?_⟩
    refine q _ _ ?_ (s1.trans sm)
    cases R x <;> cases R y <;> rfl
end
end C2

namespace C2
set_option Elab.async false
set_option linter.all false
set_option maxRecDepth 100000
set_option maxHeartbeats 1000000
open PySem PySem.Spec PyProof.Rows L2
theorem lmill_eq (xs ys : List Int) (i k j l : Nat) (turn lo ri hi le : Int) (h : (turn = 1 ∧ lo = 0 ∧ ri = 1 ∧ hi = 2 ∧ le = 3) ∨ (turn = -1 ∧ lo = 2 ∧ ri = 3 ∧ hi = 0 ∧ le = 1)) :
    (((decide (legAt xs ys i j 0 = lo) && decide (legAt xs ys i l 0 = hi)) && (decide (legAt xs ys k j 0 = lo) && decide (legAt xs ys k l 0 = hi))) && ((decide (legAt xs ys k j 1 = ri) && decide (legAt xs ys i j 1 = le)) && (decide (legAt xs ys k l 1 = ri) && decide (legAt xs ys i l 1 = le)))) = isMillB xs ys i k j l turn := by
  have e0 : ∀ u v, legAt xs ys u v 0 = crI xs u v := fun u v => rfl
  have e1 : ∀ u v, legAt xs ys u v 1 = ccI ys u v := fun u v => rfl
  simp only [e0, e1]
  rcases h with ⟨rfl, rfl, rfl, rfl, rfl⟩ | ⟨rfl, rfl, rfl, rfl, rfl⟩
  · unfold isMillB
    rw [Bool.eq_iff_iff]
    simp only [Bool.and_eq_true, decide_eq_true_eq, List.cons.injEq, and_true, if_true]
    constructor
    · rintro ⟨⟨⟨a, b⟩, c, d⟩, ⟨e, f⟩, g, h⟩
      exact ⟨⟨⟨a, f⟩, c, e⟩, ⟨b, h⟩, d, g⟩
    · rintro ⟨⟨⟨a, f⟩, c, e⟩, ⟨b, h⟩, d, g⟩
      exact ⟨⟨⟨a, b⟩, c, d⟩, ⟨e, f⟩, g, h⟩
  · unfold isMillB
    rw [Bool.eq_iff_iff]
    simp only [Bool.and_eq_true, decide_eq_true_eq, List.cons.injEq, and_true, show ¬ (-1 : Int) = 1 by decide, if_false]
    constructor
    · rintro ⟨⟨⟨a, b⟩, c, d⟩, ⟨e, f⟩, g, h⟩
      exact ⟨⟨⟨a, f⟩, c, e⟩, ⟨b, h⟩, d, g⟩
    · rintro ⟨⟨⟨a, f⟩, c, e⟩, ⟨b, h⟩, d, g⟩
      exact ⟨⟨⟨a, b⟩, c, d⟩, ⟨e, f⟩, g, h⟩
section
variable {P : Program} {w : World} {K : PySem.W.Frag} {mg : Str → Option Value} {base : Heap}
def spLMill : Sp := fun vs H Q _ => ∃ (t : Addr) (a b i k j l : Nat) (turn : Int) (xs ys : List Int), vs = [.ref t, .int (i : Int), .int (k : Int), .int (j : Int), .int (l : Int), .int turn] ∧ PickAt H t a b xs ys ∧ i < a ∧ k < a ∧ j < b ∧ l < b ∧ (turn = 1 ∨ turn = -1) ∧
  ∀ (B : Bool) H', B = isMillB xs ys i k j l turn → Same H H' → Q (.bl B) H'
def teA1 (K : PySem.W.Frag) : TE := tAndV (tCm K 10 3 0 6) (tCm K 10 4 0 8)
def teA2 (K : PySem.W.Frag) : TE := tAndV (tCm K 2 11 1 7) (tCm K 1 11 1 9)
def tAllP (K : PySem.W.Frag) (c d s : Nat) (te : TE) : TE := tCB (rAll K) (tCons (tLc (iTup K (tTup (tCons (tVar c) (tCons (tVar d) tNil)))) (gName s) tYes te [s]) tNil)
/-- the two looks -/
theorem looks_ok {D : Ends} {H G : Hp} {t : Addr} {a b i k j l : Nat} {turn lo ri hi le : Int} {xs ys : List Int} {y10 y11 : Option V} (pk : PickAt G t a b xs ys) (hi' : i < a) (hk : k < a) (hj : j < b) (hl : l < b) (sm : Same H G) (h : (turn = 1 ∧ lo = 0 ∧ ri = 1 ∧ hi = 2 ∧ le = 3) ∨ (turn = -1 ∧ lo = 2 ∧ ri = 3 ∧ hi = 0 ∧ le = 1))
    (q : ∀ (B : Bool) H', B = isMillB xs ys i k j l turn → Same H H' → D.rt (.bl B) H') :
    tSeq (tIfS (tNot (tB (tAllP K 1 2 10 (teA1 K)))) (tRet (tC (V.bl false))) tNext) (tRet (tAllP K 3 4 11 (teA2 K))) D [some (.ref t), some (.int (i : Int)), some (.int (k : Int)), some (.int (j : Int)), some (.int (l : Int)), some (.int turn), some (.int lo), some (.int ri), some (.int hi), some (.int le), y10, y11] G := by
  refine all_pair (x := i) (y := k) (R := fun v => decide (legAt xs ys v j 0 = lo) && decide (legAt xs ys v l 0 = hi)) rfl rfl (fun v => rfl) (fun v G1 Q' hv s1 k1 => ?_) fun B G1 eB s1 => ?_
  · have va : v < a := by rcases hv with rfl | rfl <;> assumption
    exact and2_ok (fun Q2 k2 => cm_ok (i := v) (j := j) rfl rfl rfl rfl (.inl rfl) (pk.same s1) va hj k2) (fun G2 Q2 s2 k2 => cm_ok (i := v) (j := l) rfl rfl rfl rfl (.inl rfl) (pk.same (s1.trans s2)) va hl k2) k1
  · have eqv := lmill_eq xs ys i k j l turn lo ri hi le h
    refine ⟨B, rfl, ite2 (fun y => ?_) (fun y => ?_)⟩
    · refine q false G1 ?_ (sm.trans s1)
      have : B = false := by simpa using y
      rw [← eqv, ← eB, this]
      rfl
    · have hB : B = true := by simpa using y
      refine all_pair (x := j) (y := l) (R := fun v => decide (legAt xs ys k v 1 = ri) && decide (legAt xs ys i v 1 = le)) rfl rfl (fun v => rfl) (fun v G2 Q' hv s2 k1 => ?_) fun C G2 eC s2 => ?_
      · have vb : v < b := by rcases hv with rfl | rfl <;> assumption
        exact and2_ok (fun Q2 k2 => cm_ok (i := k) (j := v) rfl rfl rfl rfl (.inr rfl) (pk.same (s1.trans s2)) hk vb k2) (fun G3 Q2 s3 k2 => cm_ok (i := i) (j := v) rfl rfl rfl rfl (.inr rfl) (pk.same (s1.trans (s2.trans s3))) hi' vb k2) k1
      · refine q C G2 ?_ (sm.trans (s1.trans s2))
        rw [← eqv, ← eB, hB, eC]
        rfl
theorem ok_lmill {f fC : Addr} {fd fdC : FuncData} {k : Nat} (F : Fun K "_law_is_mill" "_law_is_mill" sLMill f fd) (FC : Fun K "_law_comes" "_law_comes" sLComes fC fdC) (bC : Binds K fdC ["_law_chosen", "_law_i", "_law_j"] []) (gC : mg "_law_comes" = some (.ref fC)) (mint : mg "int" = none) (mall : mg "all" = none) :
    FnOk P w K mg base CX0 (k + 2) f fd ["_law_chosen", "_law_i", "_law_k", "_law_j", "_law_l", "_law_turn"] spLMill := by
  have GC : FnOk P w K mg base CX0 (k + 1) fC fdC ["_law_chosen", "_law_i", "_law_j"] spComes := ok_lcomes FC
  refine F.ok scLMill (fun vs H Q E h => ?_) (fun cdv A outer s H vs Q E hr h => ?_)
  · obtain ⟨t, a, b, i, k, j, l, turn, xs, ys, rfl, _⟩ := h
    rfl
  · obtain ⟨t, a, b, i, k, j, l, turn, xs, ys, rfl, pk, hi, hk, hj, hl, ht, q⟩ := h
    have nd := scLMill.nd
    refine ⟨_, pss_cons (ps_asg (pe_ix ix_list (pe_lst (pa_cons (pe_tup (pa_cons pe_int (pa_cons pe_int (pa_cons pe_int (pa_cons pe_int pa_nil))))) (pa_cons (pe_tup (pa_cons pe_int (pa_cons pe_int (pa_cons pe_int (pa_cons pe_int pa_nil))))) pa_nil))) (pe_callTy call_int1 (by rfl) mint (by decide +kernel) (pa_cons (pe_cmpR op_eq (pv 5) pe_int (nomark _)) pa_nil)) (fun _ _ => rfl)) (pg_tup rfl (pgs_cons (pg_name (i := 6) nd rfl (.inr rfl)) (pgs_cons (pg_name (i := 7) nd rfl (.inr rfl)) (pgs_cons (pg_name (i := 8) nd rfl (.inr rfl)) (pgs_cons (pg_name (i := 9) nd rfl (.inr rfl)) pgs_nil))))))
      (pss_cons (ps_if (pt_not (pt_val (pe_callB (cr_all rfl) (by rfl) mall (by decide +kernel) (pa_cons (pe_lc (own := [("_law_c", 10)]) (g := gName 10) (tt := tYes) (te := teA1 K) rfl nd (pi_tup (pe_tup (pa_cons (pv 1) (pa_cons (pv 2) pa_nil)))) (blkOk_by (own := [("_law_c", 10)]) (N := NLm) (sc := defScope sLMill) (by decide +kernel)) (fun _ _ _ _ _ => pg_name (i := 10) nd rfl (.inl rfl)) (fun _ _ _ _ _ => pts_nil) (fun _ _ _ _ _ => (pe_and (pe_cmpR op_eq (pe_ix ix_tup (pe_call GC hr (by rfl) gC FC.kp bC .nil pass0 (pa_cons (pv 0) (pa_cons (pv 10) (pa_cons (pv 3) pa_nil)))) pe_int (fun _ _ => rfl)) (pv 6) (nomark _)) (pe_one (pe_cmpR op_eq (pe_ix ix_tup (pe_call GC hr (by rfl) gC FC.kp bC .nil pass0 (pa_cons (pv 0) (pa_cons (pv 10) (pa_cons (pv 4) pa_nil)))) pe_int (fun _ _ => rfl)) (pv 8) (nomark _)))))) pa_nil)))) (pss_one (ps_ret pe_bl)) pss_nil)
      (pss_one (ps_ret (pe_callB (cr_all rfl) (by rfl) mall (by decide +kernel) (pa_cons (pe_lc (own := [("_law_r", 11)]) (g := gName 11) (tt := tYes) (te := teA2 K) rfl nd (pi_tup (pe_tup (pa_cons (pv 3) (pa_cons (pv 4) pa_nil)))) (blkOk_by (own := [("_law_r", 11)]) (N := NLm) (sc := defScope sLMill) (by decide +kernel)) (fun _ _ _ _ _ => pg_name (i := 11) nd rfl (.inl rfl)) (fun _ _ _ _ _ => pts_nil) (fun _ _ _ _ _ => (pe_and (pe_cmpR op_eq (pe_ix ix_tup (pe_call GC hr (by rfl) gC FC.kp bC .nil pass0 (pa_cons (pv 0) (pa_cons (pv 2) (pa_cons (pv 11) pa_nil)))) pe_int (fun _ _ => rfl)) (pv 7) (nomark _)) (pe_one (pe_cmpR op_eq (pe_ix ix_tup (pe_call GC hr (by rfl) gC FC.kp bC .nil pass0 (pa_cons (pv 0) (pa_cons (pv 1) (pa_cons (pv 11) pa_nil)))) pe_int (fun _ _ => rfl)) (pv 9) (nomark _)))))) pa_nil))))), ?_⟩
    refine ⟨by show 4 ≤ sizeLine; decide, fun t1 n1 => ⟨by show 4 ≤ sizeLine; decide, fun t2 n2 => ⟨by show 2 ≤ sizeLine; decide, fun l3 n3 => ?_⟩⟩⟩
    have s1 := same_upd (o := .tup [.int 2, .int 3, .int 0, .int 1]) n1
    have s2 := same_upd (o := .tup [.int 0, .int 1, .int 2, .int 3]) n2
    have s3 := same_upd (o := .lst [.ref t1, .ref t2]) n3
    have sm := s1.trans (s2.trans s3)
    have c1 := s3 _ _ (s2 _ _ (upd_same (H := H) (a := t1) (o := .tup [.int 2, .int 3, .int 0, .int 1])))
    have c2 := s3 _ _ (upd_same (H := upd H t1 (.tup [.int 2, .int 3, .int 0, .int 1])) (a := t2) (o := .tup [.int 0, .int 1, .int 2, .int 3]))
    rcases ht with rfl | rfl
    · refine ⟨.int 1, rfl, rfl, .inr ⟨_, rfl, l3, _, 1, .ref t2, rfl, rfl, .inl (.inl upd_same), rfl, ?_⟩⟩
      refine ⟨t2, _, rfl, .inl (.inl c2), rfl, _, _, rfl, _, _, rfl, _, _, rfl, _, _, rfl, rfl, ?_⟩
      exact looks_ok (H := H) (pk.same sm) hi hk hj hl sm (.inl ⟨rfl, rfl, rfl, rfl, rfl⟩) q
    · refine ⟨.int (-1), rfl, rfl, .inr ⟨_, rfl, l3, _, 0, .ref t1, rfl, rfl, .inl (.inl upd_same), rfl, ?_⟩⟩
      refine ⟨t1, _, rfl, .inl (.inl c1), rfl, _, _, rfl, _, _, rfl, _, _, rfl, _, _, rfl, rfl, ?_⟩
      exact looks_ok (H := H) (pk.same sm) hi hk hj hl sm (.inr ⟨rfl, rfl, rfl, rfl, rfl⟩) q
abbrev NPa : List Str := ["_law_many", "_law_found", "_law_one", "_law_other"]
theorem scPairs : FnScope NPa ["_law_many"] (defScope sPairs) := ⟨rfl, rfl, rfl, by decide +kernel, rfl, by decide +kernel, by decide +kernel⟩
def spPairs : Sp := fun vs H Q _ => ∃ n : Nat, vs = [.int (n : Int)] ∧ n ≤ 40 ∧ ∀ H' D, GrowV ((pairsN n).map pairV) H D H' → H D = none → Q (.ref D) H'
def pairsTo (n i : Nat) : List (List V) := (List.range i).flatMap fun i => (List.range (n - (i + 1))).map fun d => pairV (i, i + 1 + d)
theorem pairsTo_all (n : Nat) : pairsTo n n = (pairsN n).map pairV := by
  unfold pairsTo pairsN
  rw [List.map_flatMap]
  congr 1
  funext i
  rw [List.map_map]
  rfl
theorem pairsTo_succ (n i : Nat) : pairsTo n (i + 1) = pairsTo n i ++ (List.range (n - (i + 1))).map fun d => pairV (i, i + 1 + d) := by
  unfold pairsTo
  rw [List.range_succ, List.flatMap_append]
  simp
theorem pairsTo_len (n : Nat) : ∀ i, (pairsTo n i).length ≤ i * n
  | 0 => by simp [pairsTo]
  | i + 1 => by
    rw [pairsTo_succ, List.length_append, List.length_map, List.length_range, Nat.succ_mul]
    have := pairsTo_len n i
    omega
theorem ok_pairs {f : Addr} {fd : FuncData} {k : Nat} (F : Fun K "_law_pairs" "_law_pairs" sPairs f fd) (mr : mg "range" = none) : FnOk P w K mg base CX0 (k + 1) f fd ["_law_many"] spPairs := by
  refine F.ok scPairs (fun vs H Q E h => ?_) (fun cdv A outer s H vs Q E hr h => ?_)
  · obtain ⟨n, rfl, _⟩ := h
    rfl
  · obtain ⟨n, rfl, hn, q⟩ := h
    have nd := scPairs.nd
    refine ⟨_, pss_cons (ps_set (i := 1) nd rfl (.inl rfl) (pe_lst pa_nil))
      (pss_cons (ps_for PassesOwn.never rfl (pi_range1 (by rfl) mr (pa_cons (pv 0) pa_nil)) (pg_name (i := 2) nd rfl (.inr rfl)) (pss_one (ps_expr (pe_bm PySem.F.plainAttrs_list PySem.F.slot_list_extend PySem.F.type_list_extend mt_extend (pv 1) (pa_cons (pe_lc (own := [("_law_other", 3)]) (g := gName 3) (tt := tYes) (te := tTup (tCons (tVar 2) (tCons (tVar 3) tNil))) rfl nd (pi_range2 (by rfl) mr (pa_cons (pe_op op_add (pv 2) pe_int) (pa_cons (pv 0) pa_nil))) (blkOk_by (own := [("_law_other", 3)]) (N := NPa) (sc := defScope sPairs) (by decide +kernel)) (fun _ _ _ _ _ => pg_name (i := 3) nd rfl (.inl rfl)) (fun _ _ _ _ _ => pts_nil) (fun _ _ _ _ _ => (pe_tup (pa_cons (pv 2) (pa_cons (pv 3) pa_nil))))) pa_nil)))))
      (pss_one (ps_ret (pv 1)))), ?_⟩
    refine ⟨by decide, fun l nl => ?_⟩
    refine ⟨.int (n : Int), rfl, (n : Int), rfl, by omega, by omega, ?_⟩
    refine for_range (lo := 0) (n := n) (fun i σ G => GrowV (pairsTo n i) H l G ∧ ∃ y2 y3, σ = [some (.int (n : Int)), some (.ref l), y2, y3]) ⟨⟨[], same_upd nl, upd_same, fun c hc => (by cases hc), rfl⟩, _, _, rfl⟩ ?_ ?_
    · rintro i σ G hi ⟨gr, y2, y3, rfl⟩
      rw [Int.zero_add]
      obtain ⟨zs, hl, _⟩ := gr.len
      refine ⟨.ref l, rfl, .inl ⟨rfl, _, .inl (.inl hl)⟩, .int (i : Int), rfl, _, 1, rfl, rfl, .int (n : Int), rfl, (i : Int) + 1, (n : Int), rfl, ⟨by omega, by omega, by omega, by omega⟩, fun D nD => ?_⟩
      have en : ((n : Int) - ((i : Int) + 1)).toNat = n - (i + 1) := by omega
      rw [en]
      refine lc_range (lo := (i : Int) + 1) (n := n - (i + 1)) (fun d G' => GrowV ((List.range d).map fun d => pairV (i, i + 1 + d)) G D G') ⟨[], same_upd nD, upd_same, fun c hc => (by cases hc), rfl⟩ ?_ ?_
      · rintro d G' hd J
        have ed : (i : Int) + 1 + (d : Int) = ((i + 1 + d : Nat) : Int) := by omega
        rw [ed]
        refine ⟨rfl, .int (i : Int), rfl, .int ((i + 1 + d : Nat) : Int), rfl, by show 2 ≤ sizeLine; decide, fun T nT => ?_⟩
        have z := J.step (y := pairV (i, i + 1 + d)) (by rw [List.length_map, List.length_range]; omega) nD (same_upd nT) nT upd_same
        rw [List.range_succ, List.map_append]
        exact z
      · rintro G' J
        obtain ⟨as, bs, h1, h2, e1, e2, h3⟩ := gr.ext J nl
        refine ⟨l, D, as, bs, rfl, rfl, h1, h2, ?_, ?_, _, _, rfl⟩
        · rw [e1, e2, List.length_map, List.length_range]
          have z1 := pairsTo_len n i
          have z2 : i * n ≤ 40 * 40 := Nat.mul_le_mul (by omega) hn
          exact Nat.le_trans (show _ ≤ 100000 by omega) (by decide)
        · rw [pairsTo_succ]
          exact h3
    · rintro σ G ⟨gr, y2, y3, rfl⟩
      rw [pairsTo_all] at gr
      exact ⟨.ref l, rfl, q G l gr nl⟩
end
end C2

namespace C2
set_option Elab.async false
set_option linter.all false
set_option maxRecDepth 100000
set_option maxHeartbeats 1000000
open PySem PySem.Spec PyProof.Rows L2
theorem GrowV.same {xs : List (List V)} {H G G' : Hp} {D : Addr} (I : GrowV xs H D G) (s : Same G G') : GrowV xs H D G' := by
  obtain ⟨cs, sm, hD, hc, e⟩ := I
  exact ⟨cs, sm.trans s, s _ _ hD, hc.same s, e⟩
theorem GrowV.sub {xs : List (List V)} {H G : Hp} {D : Addr} (I : GrowV xs H D G) : Same H G := by
  obtain ⟨cs, sm, _⟩ := I
  exact sm
theorem flat_le {α β : Type} {f : α → List β} {c : Nat} : ∀ {L : List α}, (∀ x ∈ L, (f x).length ≤ c) → (L.flatMap f).length ≤ L.length * c
  | [], _ => by simp
  | x :: r, h => by
    rw [List.flatMap_cons, List.length_append, List.length_cons, Nat.succ_mul]
    have h1 := h x List.mem_cons_self
    have h2 := flat_le (f := f) (c := c) (L := r) fun y hy => h y (List.mem_cons_of_mem _ hy)
    omega
theorem pairsN_len {n : Nat} (h : n ≤ 6) : (pairsN n).length ≤ 36 := by
  have e := congrArg List.length (pairsTo_all n)
  rw [List.length_map] at e
  have z := pairsTo_len n n
  have : n * n ≤ 6 * 6 := Nat.mul_le_mul h h
  omega
theorem row_len {xs ys : List Int} {b : Nat} (hb : b ≤ 6) (p : Nat × Nat) : (millsRow xs ys b p).length ≤ 72 := by
  have z := flat_le (L := pairsN b) (f := fun q => (turnsOf xs ys p q).map (five p q)) (c := 2) fun q _ => by
    rw [List.length_map]
    exact List.length_filter_le _ _
  have := pairsN_len hb
  exact Nat.le_trans z (by omega)
theorem cell_at {L : List (List V)} {cs : List (Addr × List V)} {m : Nat} {x : V} (e : cs.map (·.2) = L) (hx : (vrefs cs)[m]? = some x) : ∃ (c : Addr) (y : List V), x = .ref c ∧ L[m]? = some y ∧ (c, y) ∈ cs := by
  have hm : m < cs.length := by
    have := (List.getElem?_eq_some_iff.mp hx).1
    rw [List.length_map] at this
    exact this
  rw [List.getElem?_map, List.getElem?_eq_getElem hm] at hx
  refine ⟨cs[m].1, cs[m].2, (Option.some.inj hx).symm, ?_, List.getElem_mem hm⟩
  rw [← e, List.getElem?_map, List.getElem?_eq_getElem hm]
  rfl
section
variable {P : Program} {w : World} {K : PySem.W.Frag} {mg : Str → Option Value} {base : Heap}
abbrev NMs : List Str := ["_law_chosen", "_law_found", "_law_i", "_law_k", "_law_j", "_law_l", "_law_turn"]
theorem scMills : FnScope NMs ["_law_chosen"] (defScope sMills) := ⟨rfl, rfl, rfl, by decide +kernel, rfl, by decide +kernel, by decide +kernel⟩
def ttMs : TT := tB (tCall spLMill [] E0 (tCons (tVar 0) (tCons (tVar 2) (tCons (tVar 3) (tCons (tVar 4) (tCons (tVar 5) (tCons (tVar 6) tNil)))))))
def teMs : TE := tTup (tCons (tVar 2) (tCons (tVar 3) (tCons (tVar 4) (tCons (tVar 5) (tCons (tVar 6) tNil)))))
def spMills : Sp := fun vs H Q _ => ∃ (t : Addr) (a b : Nat) (xs ys : List Int), vs = [.ref t] ∧ PickAt H t a b xs ys ∧ a ≤ 6 ∧ b ≤ 6 ∧ ∀ H' D, GrowV (vI (millsL xs ys a b)) H D H' → H D = none → Q (.ref D) H'
theorem ok_mills {f fP fM fC : Addr} {fd fdP fdM fdC : FuncData} {k : Nat} (F : Fun K "_law_mills" "_law_mills" sMills f fd) (FP : Fun K "_law_pairs" "_law_pairs" sPairs fP fdP) (FM : Fun K "_law_is_mill" "_law_is_mill" sLMill fM fdM) (FC : Fun K "_law_comes" "_law_comes" sLComes fC fdC)
    (bP : Binds K fdP ["_law_many"] []) (bM : Binds K fdM ["_law_chosen", "_law_i", "_law_k", "_law_j", "_law_l", "_law_turn"] []) (bC : Binds K fdC ["_law_chosen", "_law_i", "_law_j"] []) (gP : mg "_law_pairs" = some (.ref fP)) (gM : mg "_law_is_mill" = some (.ref fM)) (gC : mg "_law_comes" = some (.ref fC))
    (mint : mg "int" = none) (mall : mg "all" = none) (mr : mg "range" = none) (ml : mg "len" = none) : FnOk P w K mg base CX0 (k + 3) f fd ["_law_chosen"] spMills := by
  have GP : FnOk P w K mg base CX0 1 fP fdP ["_law_many"] spPairs := ok_pairs FP mr
  have GM : FnOk P w K mg base CX0 (k + 2) fM fdM ["_law_chosen", "_law_i", "_law_k", "_law_j", "_law_l", "_law_turn"] spLMill := ok_lmill FM FC bC gC mint mall
  refine F.ok scMills (fun vs H Q E h => ?_) (fun cdv A outer s H vs Q E hr h => ?_)
  · obtain ⟨t, a, b, xs, ys, rfl, _⟩ := h
    rfl
  · obtain ⟨t, a, b, xs, ys, rfl, pk, ha, hb, q⟩ := h
    obtain ⟨tx, ty, h1, h2, h3, l1, l2, u1, u2⟩ := id pk
    have nd := scMills.nd
    have t1 : ∀ G, Same H G → SqT K G t [.ref tx, .ref ty] := fun G sm => .inl (.inl (sm _ _ h1))
    refine ⟨_, pss_cons (ps_set (i := 1) nd rfl (.inl rfl) (pe_lst pa_nil))
      (pss_cons (ps_for PassesOwn.never rfl (pi_list (pe_call GP (hr.mono (by omega)) (by rfl) gP FP.kp bP .nil pass0 (pa_cons (pe_callB call_len_seq (by rfl) ml PySem.boot_len (pa_cons (pe_ix ix_tup (pv 0) pe_int (fun _ _ => rfl)) pa_nil)) pa_nil))) (pg_tup rfl (pgs_cons (pg_name (i := 2) nd rfl (.inr rfl)) (pgs_cons (pg_name (i := 3) nd rfl (.inr rfl)) pgs_nil))) (pss_one (ps_for PassesOwn.never rfl (pi_list (pe_call GP (hr.mono (by omega)) (by rfl) gP FP.kp bP .nil pass0 (pa_cons (pe_callB call_len_seq (by rfl) ml PySem.boot_len (pa_cons (pe_ix ix_tup (pv 0) pe_int (fun _ _ => rfl)) pa_nil)) pa_nil))) (pg_tup rfl (pgs_cons (pg_name (i := 4) nd rfl (.inr rfl)) (pgs_cons (pg_name (i := 5) nd rfl (.inr rfl)) pgs_nil))) (pss_one (ps_expr (pe_bm PySem.F.plainAttrs_list PySem.F.slot_list_extend PySem.F.type_list_extend mt_extend (pv 1) (pa_cons (pe_lc (own := [("_law_turn", 6)]) (g := gName 6) (tt := ttMs) (te := teMs) rfl nd (pi_tup (pe_tup (pa_cons (pe_un un_neg pe_int) (pa_cons pe_int pa_nil)))) (blkOk_by (own := [("_law_turn", 6)]) (N := NMs) (sc := defScope sMills) (by decide +kernel)) (fun _ _ _ _ _ => pg_name (i := 6) nd rfl (.inl rfl)) (fun _ _ _ _ _ => pts_one (pt_val (pe_call GM hr (by rfl) gM FM.kp bM .nil pass0 (pa_cons (pv 0) (pa_cons (pv 2) (pa_cons (pv 3) (pa_cons (pv 4) (pa_cons (pv 5) (pa_cons (pv 6) pa_nil))))))))) (fun _ _ _ _ _ => (pe_tup (pa_cons (pv 2) (pa_cons (pv 3) (pa_cons (pv 4) (pa_cons (pv 5) (pa_cons (pv 6) pa_nil)))))))) pa_nil)))))))
      (pss_one (ps_ret (pv 1)))), ?_⟩
    refine ⟨by decide, fun fo nf => ?_⟩
    have sf := same_upd (o := .lst []) nf
    refine ⟨.ref t, rfl, t, _, 1, .ref ty, rfl, rfl, t1 _ sf, rfl, ty, _, rfl, .inr (.inl (.inl (sf _ _ h3))), a, ?_, by omega, fun G1 D1 I1 nD1 => ⟨D1, rfl, ?_⟩⟩
    · rw [List.length_map, l2]
      rfl
    obtain ⟨cs1, sm1, hD1, hc1, e1⟩ := I1
    refine ⟨⟨_, .inl (.inl hD1)⟩, ?_⟩
    have nfD1 : D1 ≠ fo := fun z => by rw [z, upd_same] at nD1; cases nD1
    have lenA := pairsN_len ha
    have lcs1 : cs1.length = (pairsN a).length := by
      have := congrArg List.length e1
      rw [List.length_map, List.length_map] at this
      exact this
    refine for_list (xs := vrefs cs1) (fun m σ G => Fr fo G1 G ∧ GrowV (vI (((pairsN a).take m).flatMap (millsRow xs ys b))) H fo G ∧ ∃ y2 y3 y4 y5 y6, σ = [some (.ref t), some (.ref fo), y2, y3, y4, y5, y6]) ⟨Fr.refl _ _, ⟨[], sf.trans sm1, sm1 _ _ upd_same, fun c hc => (by cases hc), rfl⟩, _, _, _, _, _, rfl⟩ (fun m σ G _ h => .inl (.inl (h.1 _ _ nfD1 hD1))) ?_ ?_
    · rintro m x σ G hx ⟨fr, gr, y2, y3, y4, y5, y6, rfl⟩
      obtain ⟨c, y, rfl, hy, hmem⟩ := cell_at e1 hx
      rw [List.getElem?_map] at hy
      obtain ⟨p, hp, rfl⟩ := Option.map_eq_some_iff.mp hy
      have pm := pairsN_mem (List.mem_of_getElem? hp)
      have hcell := hc1 _ hmem
      have ncf : c ≠ fo := fun z => by
        have w := sm1 _ _ (upd_same (H := H) (a := fo) (o := .lst []))
        have hcell' : G1 c = some (.tup (pairV p)) := hcell
        rw [z, w] at hcell'
        cases hcell'
      have hcG : G c = some (.tup (pairV p)) := fr _ _ ncf hcell
      refine ⟨c, _, rfl, .inl (.inl hcG), rfl, _, _, rfl, _, _, rfl, rfl, ?_⟩
      refine ⟨.ref t, rfl, t, _, 0, .ref tx, rfl, rfl, t1 _ gr.sub, rfl, tx, _, rfl, .inr (.inl (.inl (gr.sub _ _ h2))), b, ?_, by omega, fun G2 D2 I2 nD2 => ⟨D2, rfl, ?_⟩⟩
      · rw [List.length_map, l1]
        rfl
      obtain ⟨cs2, sm2, hD2, hc2, e2⟩ := I2
      refine ⟨⟨_, .inl (.inl hD2)⟩, ?_⟩
      obtain ⟨zs, hfo, _⟩ := gr.len
      have nfD2 : D2 ≠ fo := fun z => by rw [z, hfo] at nD2; cases nD2
      have lcs2 : cs2.length = (pairsN b).length := by
        have := congrArg List.length e2
        rw [List.length_map, List.length_map] at this
        exact this
      have lenB := pairsN_len hb
      have tk : ((pairsN a).take (m + 1)).flatMap (millsRow xs ys b) = ((pairsN a).take m).flatMap (millsRow xs ys b) ++ millsRow xs ys b p := by
        rw [List.take_add_one, hp, List.flatMap_append]
        simp
      refine for_list (xs := vrefs cs2) (fun m' σ G' => Fr fo G2 G' ∧ GrowV (vI (((pairsN a).take m).flatMap (millsRow xs ys b) ++ ((pairsN b).take m').flatMap fun q => (turnsOf xs ys p q).map (five p q))) H fo G' ∧ ∃ y4 y5 y6, σ = [some (.ref t), some (.ref fo), some (.int (p.1 : Int)), some (.int (p.2 : Int)), y4, y5, y6])
        ⟨Fr.refl _ _, by rw [List.take_zero, List.flatMap_nil, List.append_nil]; exact gr.same sm2, _, _, _, rfl⟩ (fun m' σ G' _ h => .inl (.inl (h.1 _ _ nfD2 hD2))) ?_ ?_
      · rintro m' x σ G' hx ⟨fr', gr', y4, y5, y6, rfl⟩
        obtain ⟨c', y, rfl, hy, hmem'⟩ := cell_at e2 hx
        rw [List.getElem?_map] at hy
        obtain ⟨r, hr', rfl⟩ := Option.map_eq_some_iff.mp hy
        have rm := pairsN_mem (List.mem_of_getElem? hr')
        have hcell' := hc2 _ hmem'
        have ncf' : c' ≠ fo := fun z => by
          have w := sm2 _ _ hfo
          have h' : G2 c' = some (.tup (pairV r)) := hcell'
          rw [z, w] at h'
          cases h'
        have hcG' : G' c' = some (.tup (pairV r)) := fr' _ _ ncf' hcell'
        refine ⟨c', _, rfl, .inl (.inl hcG'), rfl, _, _, rfl, _, _, rfl, rfl, ?_⟩
        obtain ⟨zs', hfo', lz'⟩ := gr'.len
        refine ⟨.ref fo, rfl, .inl ⟨rfl, _, .inl (.inl hfo')⟩, 1, rfl, by show 2 ≤ sizeLine; decide, fun T nT => ⟨T, rfl, ⟨_, .inl (.inl upd_same)⟩, fun D3 nD3 => ?_⟩⟩
        have sT := same_upd (o := .tup [.int (-1), .int 1]) nT
        have pkT := pk.same (gr'.sub.trans sT)
        have nfD3 : D3 ≠ fo := fun z => by rw [z, sT _ _ hfo'] at nD3; cases nD3
        refine lc_tup (xs := [.int (-1), .int 1]) (fun i G3 => GrowV (vI ((([(-1 : Int), 1].take i).filter fun t => isMillB xs ys p.1 p.2 r.1 r.2 t).map (five p r))) (upd G' T (.tup [.int (-1), .int 1])) D3 G3) ⟨[], same_upd nD3, upd_same, fun c hc => (by cases hc), rfl⟩ (fun i G3 _ h => .inl (.inl (h.sub _ _ upd_same))) ?_ ?_
        · rintro i v G3 hv J
          have i2 : i < 2 := (List.getElem?_eq_some_iff.mp hv).1
          obtain ⟨v', ev, hv', er⟩ : ∃ v' : Int, v = .int v' ∧ (v' = 1 ∨ v' = -1) ∧ ([(-1 : Int), 1].take (i + 1)) = [(-1 : Int), 1].take i ++ [v'] := by
            rcases (show i = 0 ∨ i = 1 by omega) with rfl | rfl
            · exact ⟨-1, (Option.some.inj hv).symm, .inr rfl, rfl⟩
            · exact ⟨1, (Option.some.inj hv).symm, .inl rfl, rfl⟩
          subst ev
          rw [er, List.filter_append, List.map_append]
          refine ⟨rfl, .ref t, rfl, .int (p.1 : Int), rfl, .int (p.2 : Int), rfl, .int (r.1 : Int), rfl, .int (r.2 : Int), rfl, .int v', rfl, t, a, b, p.1, p.2, r.1, r.2, v', xs, ys, rfl, pkT.same J.sub, by omega, by omega, by omega, by omega, hv', fun B G4 eB s4 => ⟨B, rfl, ite2 (fun y => ?_) (fun y => ?_)⟩⟩
          · refine ⟨.int (p.1 : Int), rfl, .int (p.2 : Int), rfl, .int (r.1 : Int), rfl, .int (r.2 : Int), rfl, .int v', rfl, by show 5 ≤ sizeLine; decide, fun T5 n5 => ?_⟩
            have ef : [v'].filter (fun t => isMillB xs ys p.1 p.2 r.1 r.2 t) = [v'] := by
              rw [List.filter_cons_of_pos (by rw [← eB]; exact y)]
              rfl
            rw [ef]
            have z := (J.same s4).step (y := (five p r v').map V.int) (by
              unfold vI
              rw [List.length_map, List.length_map]
              exact Nat.lt_of_le_of_lt (List.length_filter_le _ _) (by rw [List.length_take]; exact Nat.lt_of_le_of_lt (Nat.min_le_right _ _) (by decide))) nD3 (same_upd (o := .tup ((five p r v').map V.int)) n5) n5 upd_same
            unfold vI at z ⊢
            rw [List.map_append]
            exact z
          · have ef : [v'].filter (fun t => isMillB xs ys p.1 p.2 r.1 r.2 t) = [] := by
              rw [List.filter_cons_of_neg (by rw [← eB]; exact y)]
              rfl
            rw [ef, List.map_nil, List.append_nil]
            exact J.same s4
        · rintro G3 J
          have J' : GrowV (vI ((turnsOf xs ys p r).map (five p r))) (upd G' T (.tup [.int (-1), .int 1])) D3 G3 := J
          obtain ⟨as, bs, k1, k2, ea, eb, k3⟩ := (gr'.same sT).ext J' nf
          refine ⟨fo, D3, as, bs, rfl, rfl, k1, k2, ?_, ?_, ?_, _, _, _, rfl⟩
          · rw [ea, eb]
            unfold vI
            rw [List.length_map, List.length_map, List.length_append, List.length_map]
            have z1 := flat_le (L := (pairsN a).take m) (f := millsRow xs ys b) (c := 72) fun p _ => row_len hb p
            have z2 := flat_le (L := (pairsN b).take m') (f := fun q => (turnsOf xs ys p q).map (five p q)) (c := 2) fun q _ => by
              rw [List.length_map]
              exact List.length_filter_le _ _
            have z3 : (turnsOf xs ys p r).length ≤ 2 := List.length_filter_le _ _
            rw [List.length_take] at z1 z2
            have w1 : min m (pairsN a).length * 72 ≤ 36 * 72 := Nat.mul_le_mul (by omega) (by omega)
            have w2 : min m' (pairsN b).length * 2 ≤ 36 * 2 := Nat.mul_le_mul (by omega) (by omega)
            exact Nat.le_trans (show _ ≤ 3000 by omega) (by decide)
          · intro e o ne he
            rw [upd_ne ne]
            exact J'.sub _ _ (sT _ _ (fr' _ _ ne he))
          · have tk' : ((pairsN b).take (m' + 1)).flatMap (fun q => (turnsOf xs ys p q).map (five p q)) = ((pairsN b).take m').flatMap (fun q => (turnsOf xs ys p q).map (five p q)) ++ (turnsOf xs ys p r).map (five p r) := by
              rw [List.take_add_one, hr', List.flatMap_append]
              simp
            rw [tk', ← List.append_assoc]
            unfold vI at k3 ⊢
            rw [List.map_append]
            exact k3
      · rintro σ G' ⟨fr', gr', y4, y5, y6, rfl⟩
        rw [List.length_map, lcs2, List.take_length] at gr'
        refine ⟨?_, ?_, _, _, _, _, _, rfl⟩
        · intro e o ne he
          exact fr' _ _ ne (sm2 _ _ (fr _ _ ne he))
        · rw [tk]
          exact gr'
    · rintro σ G ⟨fr, gr, y2, y3, y4, y5, y6, rfl⟩
      rw [List.length_map, lcs1, List.take_length] at gr
      exact ⟨.ref fo, rfl, q G fo gr nf⟩
end
end C2

namespace C2
set_option Elab.async false
set_option linter.all false
set_option maxRecDepth 100000
set_option maxHeartbeats 1000000
open PySem PySem.Spec PyProof.Rows L2
/-! ### a <= b < c < d -/
def tChain3 (r r' r'' : R2) (ta tb tc td : TE) : TE := fun σ H Q => ta σ H fun x H1 => tb σ H1 fun y H2 => r x y H2 fun z H3 => ∃ k, z = .bl k ∧
  (if k = true then tc σ H3 fun u H4 => r' y u H4 fun z' H5 => ∃ k', z' = .bl k' ∧ (if k' = true then td σ H5 fun v H6 => r'' u v H6 Q else Q (.bl false) H5) else Q (.bl false) H3)
section
variable {X : Cx}
/-- as a test -/
theorem pt_chain3 {o1 o2 o3 : CmpOp} {r r' r'' : R2} {a b c d : Expr} {ta tb tc td : TE} {pos : Pos} (h1 : OpR X (compareOp o1) r) (h2 : OpR X (compareOp o2) r') (h3 : OpR X (compareOp o3) r'') (ha : PE X a ta) (hb : PE X b tb) (hc : PE X c tc) (hd : PE X d td)
    (plain : lastMarks [o1, o2, o3] [b, c, d] = false := by with_unfolding_all rfl) : PT X (.Compare a [o1, o2, o3] [b, c, d] pos) (tTest (tChain3 r r' r'' ta tb tc td)) := by
  constructor
  intro pins s0 σ H Q I0 h
  refine isTrue_chain (thn (ha.run pins s0 σ H _ I0 h) ?_) plain
  rintro va s1 ⟨x, H1, I1, rx, q1⟩
  refine test_link (thn (hb.run pins s1 σ H1 _ I1 q1) ?_)
  rintro vb s2 ⟨y, H2, I2, ry, q2⟩
  refine thn (h1 pins s2 σ H2 x y va vb _ I2 rx ry q2) ?_
  rintro vz s3 ⟨z, H3, I3, rz, k, rfl, q3⟩
  cases rz
  refine wpAny_truthy_bool ?_
  cases k with
  | false =>
    obtain ⟨_, e, q'⟩ := q3
    cases e
    exact ite_ff ⟨H3, I3, q'⟩
  | true =>
    refine ite_tt (test_link (thn (hc.run pins s3 σ H3 _ I3 q3) ?_))
    rintro vc s4 ⟨u, H4, I4, ru, q4⟩
    refine thn (h2 pins s4 σ H4 y u vb vc _ I4 ry ru q4) ?_
    rintro vw s5 ⟨w, H5, I5, rw5, k', rfl, q5⟩
    cases rw5
    refine wpAny_truthy_bool ?_
    cases k' with
    | false =>
      obtain ⟨_, e, q'⟩ := q5
      cases e
      exact ite_ff ⟨H5, I5, q'⟩
    | true =>
      refine ite_tt (test_last (thn (hd.run pins s5 σ H5 _ I5 q5) ?_))
      rintro vd s6 ⟨v, H6, I6, rv, q6⟩
      refine thn (h3 pins s6 σ H6 u v vc vd _ I6 ru rv q6) ?_
      rintro vt s7 ⟨_, H7, I7, rt, k'', rfl, q7⟩
      cases rt
      exact wpAny_truthy_bool ⟨H7, I7, q7⟩
end
section
variable {P : Program} {w : World} {K : PySem.W.Frag} {mg : Str → Option Value} {base : Heap}
theorem chain_pair {m : Nat} {i k : Int} : pairD m (.int i) (.int k) = (decide (0 ≤ i) && (decide (i < k) && decide (k < (m : Int)))) := by
  show (decide _ && (decide _ && decide _)) = _
  rw [Bool.eq_iff_iff]
  simp only [Bool.and_eq_true, decide_eq_true_eq]
  omega
abbrev NOn : List Str := ["_law_chosen", "_law_what", "_law_i", "_law_k", "_law_j", "_law_l", "_law_turn", "_law_one"]
theorem scOne : FnScope NOn ["_law_chosen", "_law_what"] (defScope sOne) := ⟨rfl, rfl, rfl, by decide +kernel, rfl, by decide +kernel, by decide +kernel⟩
def teIn (K : PySem.W.Frag) : TE := tAndV (tCB (rIsi K) (tCons (tVar 7) (tCons (tC (.ty "int")) tNil))) (tNotV (tCB (rIsi K) (tCons (tVar 7) (tCons (tC (.ty "bool")) tNil))))
theorem all_in {E : Addr → Prop} {H : Hp} : ∀ {ds : List PyData} {vs : List V}, DqAll E H vs ds → vs.all isIn = ds.all isIntD
  | [], _, h => by cases h; rfl
  | d :: ds, _, h => by
    cases h with
    | cons x t =>
      rw [List.all_cons, List.all_cons, all_in t]
      congr 1
      cases x <;> rfl
theorem isIntD_int {d : PyData} (h : isIntD d = true) : ∃ i, d = .int i := by
  cases d with
  | int i => exact ⟨i, rfl⟩
  | _ => cases h
theorem millD_ints {xs ys : List Int} {a b : Nat} {ds : List PyData} (h : ds.all isIntD = false) : millD xs ys a b (.tuple ds) = false := by
  cases e : millD xs ys a b (.tuple ds) with
  | false => rfl
  | true =>
    match ds, e, h with
    | [x1, x2, x3, x4, x5], e, h =>
      have e : (_ && (_ && (_ && _))) = true := e
      rw [Bool.and_eq_true, Bool.and_eq_true, Bool.and_eq_true] at e
      obtain ⟨i, k, rfl, rfl, _⟩ := pairD_yes e.1
      obtain ⟨j, l, rfl, rfl, _⟩ := pairD_yes e.2.1
      cases x5 with
      | int t => cases h
      | _ => cases e.2.2.1
theorem ok_one {f fLM fC : Addr} {fd fdLM fdC : FuncData} {k : Nat} (F : Fun K "_law_is_one" "_law_is_one" sOne f fd) (FLM : Fun K "_law_is_mill" "_law_is_mill" sLMill fLM fdLM) (FC : Fun K "_law_comes" "_law_comes" sLComes fC fdC) (bLM : Binds K fdLM ["_law_chosen", "_law_i", "_law_k", "_law_j", "_law_l", "_law_turn"] []) (bC : Binds K fdC ["_law_chosen", "_law_i", "_law_j"] []) (gLM : mg "_law_is_mill" = some (.ref fLM)) (gC : mg "_law_comes" = some (.ref fC))
    (mi : mg "isinstance" = none) (mint : mg "int" = none) (mbool : mg "bool" = none) (mtup : mg "tuple" = none) (ml : mg "len" = none) (mall : mg "all" = none) : FnOk P w K mg base CX0 (k + 3) f fd ["_law_chosen", "_law_what"] spIsMill := by
  have GLM : FnOk P w K mg base CX0 (k + 2) fLM fdLM ["_law_chosen", "_law_i", "_law_k", "_law_j", "_law_l", "_law_turn"] spLMill := ok_lmill FLM FC bC gC mint mall
  refine F.ok scOne (fun vs H Q E h => ?_) (fun cdv A outer s H vs Q E hr h => ?_)
  · obtain ⟨t, N, v, d, a, b, xs, ys, rfl, _⟩ := h
    rfl
  · obtain ⟨t, N, v, d, a, b, xs, ys, rfl, pk, tg, q⟩ := h
    have nd := scOne.nd
    refine ⟨_, pss_cons (ps_if (PW.pt (pw_or (pt_not (pt_val (pe_callB call_isi (by rfl) mi (by decide +kernel) (pa_cons (pv 1) (pa_cons (pe_bltn (v := .ty "tuple") (by rfl) mtup (by decide +kernel) rfl) pa_nil))))) (pw_or1 (pt_cmpR op_ne (pe_callB call_len_seq (by rfl) ml PySem.boot_len (pa_cons (pv 1) pa_nil)) pe_int (nomark _))))) (pss_one (ps_ret pe_bl)) pss_nil)
      (pss_cons (ps_if (pt_not (pt_val (pe_callB (cr_all rfl) (by rfl) mall (by decide +kernel) (pa_cons (pe_lc (own := [("_law_one", 7)]) (g := gName 7) (tt := tYes) (te := teIn K) rfl nd (pi_tup (pv 1)) (blkOk_by (own := [("_law_one", 7)]) (N := NOn) (sc := defScope sOne) (by decide +kernel)) (fun _ _ _ _ _ => pg_name (i := 7) nd rfl (.inl rfl)) (fun _ _ _ _ _ => pts_nil) (fun _ _ _ _ _ => (pe_and (pe_callB call_isi (by rfl) mi (by decide +kernel) (pa_cons (pv 7) (pa_cons (pe_bltn (v := .ty "int") (by rfl) mint (by decide +kernel) rfl) pa_nil))) (pe_one (pe_not (pe_callB call_isi (by rfl) mi (by decide +kernel) (pa_cons (pv 7) (pa_cons (pe_bltn (v := .ty "bool") (by rfl) mbool (by decide +kernel) rfl) pa_nil)))))))) pa_nil)))) (pss_one (ps_ret pe_bl)) pss_nil)
      (pss_cons (ps_asg (pv 1) (pg_tup rfl (pgs_cons (pg_name (i := 2) nd rfl (.inl rfl)) (pgs_cons (pg_name (i := 3) nd rfl (.inl rfl)) (pgs_cons (pg_name (i := 4) nd rfl (.inl rfl)) (pgs_cons (pg_name (i := 5) nd rfl (.inl rfl)) (pgs_cons (pg_name (i := 6) nd rfl (.inl rfl)) pgs_nil)))))))
      (pss_cons (ps_if (PW.pt (pw_or (pt_not (pt_chain3 op_le op_lt op_lt pe_int (pv 2) (pv 3) (pe_callB call_len_seq (by rfl) ml PySem.boot_len (pa_cons (pe_ix ix_tup (pv 0) pe_int (fun _ _ => rfl)) pa_nil)))) (pw_or (pt_not (pt_chain3 op_le op_lt op_lt pe_int (pv 4) (pv 5) (pe_callB call_len_seq (by rfl) ml PySem.boot_len (pa_cons (pe_ix ix_tup (pv 0) pe_int (fun _ _ => rfl)) pa_nil)))) (pw_or1 (pt_cmpR op_notIn_seq (pv 6) (pe_tup (pa_cons pe_int (pa_cons (pe_un un_neg pe_int) pa_nil))) (by rfl)))))) (pss_one (ps_ret pe_bl)) pss_nil)
      (pss_one (ps_ret (pe_call GLM hr (by rfl) gLM FLM.kp bLM .nil pass0 (pa_cons (pv 0) (pa_cons (pv 2) (pa_cons (pv 3) (pa_cons (pv 4) (pa_cons (pv 5) (pa_cons (pv 6) pa_nil)))))))))))), ?_⟩
    obtain ⟨o, th, yes, no⟩ := tg.thg
    obtain ⟨n, ty, _, _, k3, _⟩ := th.kit (K := K)
    refine ⟨v, rfl, v, .ty "tuple", _, _, _, rfl, .ty "tuple", ty, kit_ty k3, o.isSome, rfl, ite2 (fun e => ?_) (fun e => ?_)⟩
    · refine iteT (q _ _ ?_ (Same.refl _))
      cases o with
      | none => exact (millD_no fun x1 x2 x3 x4 x5 z => no rfl _ z).symm
      | some xs => cases e
    cases o with
    | none => exact absurd rfl e
    | some zs =>
    obtain ⟨ds, rfl, da⟩ := yes zs rfl
    obtain ⟨c, rfl, ec⟩ := th.some_tup
    have l := da.len
    refine ⟨.ref c, rfl, c, zs, rfl, .inr (.inl (.inl ec)), rfl, _, rfl, ite2 (fun z => ?_) (fun z => ?_)⟩
    · refine q _ _ ?_ (Same.refl _)
      refine (millD_no fun x1 x2 x3 x4 x5 w => ?_).symm
      cases w
      have : zs.length = 5 := l
      rw [this] at z
      cases z
    have el : zs.length = 5 := by
      by_cases y : zs.length = 5
      · exact y
      · refine absurd ?_ z
        have : ¬ ((zs.length : Nat) : Int) = 5 := by omega
        simp [this]
    show tSeq (tIfS (tNot (tB (tCB (rAll K) (tCons (tLc (iTup K (tVar 1)) (gName 7) tYes (teIn K) [7]) tNil)))) (tRet (tC (V.bl false))) tNext) _ _ [some (.ref t), some (.ref c), none, none, none, none, none, none] _
    refine all_tup (R := isIn) rfl ec (fun v => rfl) (fun y G1 Q' hy s1 kk => ?_) (Nat.lt_of_lt_of_le (show zs.length < 1000 by omega) (by decide)) fun B G1 eB sm => ?_
    · obtain ⟨dy, _, hy'⟩ := da.nth hy
      obtain ⟨oy, tyy, _⟩ := hy'.thg
      obtain ⟨m, ty2, k1, k2, _, _⟩ := (tyy.same s1).kit (K := K)
      refine ⟨y, rfl, y, .ty "int", _, _, _, rfl, .ty "int", ty2, kit_ty k1, _, rfl, ite2 (fun e1 => ?_) (fun e1 => ?_)⟩
      · refine ⟨y, rfl, y, .ty "bool", _, _, _, rfl, .ty "bool", ty2, kit_ty k2, _, rfl, kk _ _ ?_ (Same.refl _)⟩
        exact isIB_not e1
      · exact kk _ _ (isIB_no e1).symm (Same.refl _)
    rw [all_in da] at eB
    refine ⟨B, rfl, ite2 (fun e1 => ?_) (fun e1 => ?_)⟩
    · have hB : B = false := by simpa using e1
      refine q _ _ ?_ sm
      rw [millD_ints (by rw [← eB, hB])]
    have hB : B = true := by simpa using e1
    rw [hB] at eB
    match zs, ds, da, el, l, eB with
    | [w1, w2, w3, w4, w5], [x1, x2, x3, x4, x5], .cons h1 (.cons h2 (.cons h3 (.cons h4 (.cons h5 .nil)))), _, _, eB =>
    have e5 := eB.symm
    simp only [List.all_cons, List.all_nil, Bool.and_true, Bool.and_eq_true] at e5
    obtain ⟨i, rfl⟩ := isIntD_int e5.1
    obtain ⟨k, rfl⟩ := isIntD_int e5.2.1
    obtain ⟨j, rfl⟩ := isIntD_int e5.2.2.1
    obtain ⟨l', rfl⟩ := isIntD_int e5.2.2.2.1
    obtain ⟨turn, rfl⟩ := isIntD_int e5.2.2.2.2
    cases h1
    cases h2
    cases h3
    cases h4
    cases h5
    refine ⟨.ref c, rfl, c, _, rfl, .inl (.inl (sm _ _ ec)), rfl, _, _, rfl, _, _, rfl, _, _, rfl, _, _, rfl, _, _, rfl, rfl, ?_⟩
    obtain ⟨tx, tyy, p1, p2, p3, l1, l2, u1, u2⟩ := id (pk.same sm)
    dsimp only
    have millE : millD xs ys a b (.tuple [.int i, .int k, .int j, .int l', .int turn]) = (pairD a (.int i) (.int k) && (pairD b (.int j) (.int l') && (decide (turn = 1 ∨ turn = -1) && isMillB xs ys i.toNat k.toNat j.toNat l'.toNat turn))) := rfl
    refine ⟨.int i, rfl, 0, i, rfl, rfl, _, rfl, ite2 (fun z1 => ?_) (fun z1 => ?_)⟩
    rotate_left
    · refine ⟨false, rfl, iteT (iteT (q _ _ ?_ sm))⟩
      have z0 : pairD a (.int i) (.int k) = false := by rw [chain_pair, Bool.eq_false_iff.mpr z1, Bool.false_and]
      rw [millE, z0, Bool.false_and]
    refine ⟨.int k, rfl, i, k, rfl, rfl, _, rfl, ite2 (fun z2 => ?_) (fun z2 => ?_)⟩
    rotate_left
    · refine ⟨false, rfl, iteT (iteT (q _ _ ?_ sm))⟩
      have z0 : pairD a (.int i) (.int k) = false := by rw [chain_pair, Bool.eq_false_iff.mpr z2, Bool.false_and, Bool.and_false]
      rw [millE, z0, Bool.false_and]
    refine ⟨.ref t, rfl, t, _, 1, .ref tyy, rfl, rfl, .inl (.inl p1), rfl, tyy, _, rfl, .inr (.inl (.inl p3)), k, _, rfl, rfl, _, rfl, ite2 (fun z3 => ?_) (fun z3 => ?_)⟩
    · refine iteT (q _ _ ?_ sm)
      have z4 : decide (k < (a : Int)) = false := by
        rw [List.length_map, l2] at z3
        simpa using z3
      have z0 : pairD a (.int i) (.int k) = false := by rw [chain_pair, z4, Bool.and_false, Bool.and_false]
      rw [millE, z0, Bool.false_and]
    have y1 : pairD a (.int i) (.int k) = true := by
      have z4 : decide (k < (a : Int)) = true := by
        rw [List.length_map, l2] at z3
        simpa using z3
      rw [chain_pair, z1, z2, z4]
      rfl
    refine ⟨.int j, rfl, 0, j, rfl, rfl, _, rfl, ite2 (fun z1 => ?_) (fun z1 => ?_)⟩
    rotate_left
    · refine ⟨false, rfl, iteT (iteT (q _ _ ?_ sm))⟩
      have z0 : pairD b (.int j) (.int l') = false := by rw [chain_pair, Bool.eq_false_iff.mpr z1, Bool.false_and]
      rw [millE, y1, Bool.true_and, z0, Bool.false_and]
    refine ⟨.int l', rfl, j, l', rfl, rfl, _, rfl, ite2 (fun z2 => ?_) (fun z2 => ?_)⟩
    rotate_left
    · refine ⟨false, rfl, iteT (iteT (q _ _ ?_ sm))⟩
      have z0 : pairD b (.int j) (.int l') = false := by rw [chain_pair, Bool.eq_false_iff.mpr z2, Bool.false_and, Bool.and_false]
      rw [millE, y1, Bool.true_and, z0, Bool.false_and]
    refine ⟨.ref t, rfl, t, _, 0, .ref tx, rfl, rfl, .inl (.inl p1), rfl, tx, _, rfl, .inr (.inl (.inl p2)), l', _, rfl, rfl, _, rfl, ite2 (fun z3 => ?_) (fun z3 => ?_)⟩
    · refine iteT (q _ _ ?_ sm)
      have z4 : decide (l' < (b : Int)) = false := by
        rw [List.length_map, l1] at z3
        simpa using z3
      have z0 : pairD b (.int j) (.int l') = false := by rw [chain_pair, z4, Bool.and_false, Bool.and_false]
      rw [millE, y1, Bool.true_and, z0, Bool.false_and]
    have y2 : pairD b (.int j) (.int l') = true := by
      have z4 : decide (l' < (b : Int)) = true := by
        rw [List.length_map, l1] at z3
        simpa using z3
      rw [chain_pair, z1, z2, z4]
      rfl
    refine ⟨.int turn, rfl, 1, rfl, by show 2 ≤ sizeLine; decide, fun T2 n2 => ⟨T2, _, rfl, .inr (.inl (.inl upd_same)), rfl, rfl, _, rfl, ite2 (fun c4 => ?_) (fun c4 => ?_)⟩⟩
    · refine q _ _ ?_ (sm.trans (same_upd n2))
      have nt : ¬ (turn = 1 ∨ turn = -1) := fun z => by rcases z with rfl | rfl <;> exact absurd c4 (by decide)
      rw [millE, decide_eq_false nt, Bool.false_and, Bool.and_false, Bool.and_false]
    have ht : turn = 1 ∨ turn = -1 := by
      by_cases z1 : turn = 1
      · exact .inl z1
      · by_cases z2 : turn = -1
        · exact .inr z2
        · refine absurd ?_ c4
          show (!(((1 : Int) == turn) || (((-1 : Int) == turn) || false))) = true
          rw [beq_eq_false_iff_ne.mpr (fun y => z1 y.symm), beq_eq_false_iff_ne.mpr (fun y => z2 y.symm)]
          rfl
    obtain ⟨ni, nk, ei, ek, ik, ka⟩ := pairD_yes y1
    obtain ⟨nj, nl, ej, el', jl, lb⟩ := pairD_yes y2
    cases ei
    cases ek
    cases ej
    cases el'
    have s2 := same_upd (o := .tup [.int 1, .int (-1)]) n2
    refine ⟨.ref t, rfl, .int (ni : Int), rfl, .int (nk : Int), rfl, .int (nj : Int), rfl, .int (nl : Int), rfl, .int turn, rfl, t, a, b, ni, nk, nj, nl, turn, xs, ys, rfl, (pk.same sm).same s2, by omega, ka, by omega, lb, ht, fun B H' eB' s3 => q B H' ?_ (sm.trans (s2.trans s3))⟩
    rw [millE, y1, y2, decide_eq_true ht, Bool.true_and, Bool.true_and, Bool.true_and, eB']
    rfl
end
end C2

namespace C2
set_option Elab.async false
set_option linter.all false
set_option maxRecDepth 100000
set_option maxHeartbeats 1000000
open PySem PySem.Spec PyProof.Rows L2 HT
theorem pow29 : CPow 10 29 := ⟨by decide, by decide, by decide⟩
theorem oq_two : Oq (.int (-2)) 0 100 := okL.oq (by decide +kernel)
theorem oq_str1 : Oq (.str "1") 0 100 := okL.oq (by decide +kernel)
theorem oq_small {v : Int} (h0 : -2 ≤ v) (h1 : v < 64) : Oq (.int v) 0 100 := by
  rcases (show v = -2 ∨ v = -1 ∨ 0 ≤ v by omega) with rfl | rfl | h
  · exact oq_two
  · exact oq_less
  · exact oq_int h h1
theorem tupI {E : Addr → Prop} {G : Hp} {c : Addr} {vs : List Int} (h : G c = some (.tup (vs.map V.int))) (n : ¬ E c) : TupD E G c (vs.map PyData.int) := ⟨_, h, n, DqAll.ints vs⟩
theorem newT {E : Addr → Prop} {G : Hp} {c : Addr} {vs : List Int} (lN : LstN E G) (nc : G c = none) : TupD E (upd G c (.tup (vs.map V.int))) c (vs.map PyData.int) := tupI upd_same (lN.out c nc)
theorem LstN.set {N : Addr → Prop} {G : Hp} {l : Addr} {zs : List V} (h : LstN N G) : LstN N (upd G l (.lst zs)) := fun x hx => by
  by_cases e : x = l
  · exact ⟨zs, by rw [e, upd_same]⟩
  · obtain ⟨us, z⟩ := h x hx
    exact ⟨us, by rw [upd_ne e]; exact z⟩
theorem oqI {vs : List Int} (h : ∀ v ∈ vs, -2 ≤ v ∧ v < 64) : ∀ d ∈ vs.map PyData.int, Oq d 0 100 := fun d hd => by
  obtain ⟨v, hv, rfl⟩ := List.mem_map.mp hd
  exact oq_small (h v hv).1 (h v hv).2
theorem flatO {ds : List PyData} (h : ∀ d ∈ ds, Oq d 0 100) (l : ds.length ≤ 90) : Oq (.tuple ds) 1 9090 := Oq.tup h l
/-- five small ints -/
structure Fv (i k j l t : Int) : Prop where
  i0 : 0 ≤ i ∧ i ≤ 10
  k0 : 0 ≤ k ∧ k ≤ 10
  j0 : 0 ≤ j ∧ j ≤ 10
  l0 : 0 ≤ l ∧ l ≤ 10
  t0 : -1 ≤ t ∧ t ≤ 1
theorem Fv.mem {i k j l t : Int} (h : Fv i k j l t) : ∀ v ∈ [i, k, j, l, t], -2 ≤ v ∧ v < 64 := fun v hv => by
  obtain ⟨a, b, c, d, e⟩ := h
  simp only [List.mem_cons, List.not_mem_nil, or_false] at hv
  omega
def FiveAt (G : Hp) (v : V) : Prop := ∃ (c : Addr) (i k j l t : Int), v = .ref c ∧ G c = some (.tup [.int i, .int k, .int j, .int l, .int t]) ∧ Fv i k j l t
theorem tlst_run {ta : TA} {σ : L2.St} {H : Hp} {Q : VK} (h : ta σ H fun vs H1 => vs.length ≤ sizeLine ∧ ∀ p, H1 p = none → Q (.ref p) (upd H1 p (.lst vs))) : tLst ta σ H Q := h
section
variable {P : Program} {w : World} {K : PySem.W.Frag} {mg : Str → Option Value} {base : Heap}
/-- b[:at] + (one,) + b[at + 1:] -/
theorem mid_ok {N : Addr → Prop} {te : TE} {σ : L2.St} {G : Hp} {Q : VK} {cb : Addr} {vs : List Int} {at_ : Int} (lN : LstN N G) (h6 : σ[6]? = some (some (.ref cb))) (h12 : σ[12]? = some (some (.int at_))) (hcb : G cb = some (.tup (vs.map V.int))) (small : ∀ v ∈ vs, -2 ≤ v ∧ v < 64) (l5 : vs.length ≤ 5)
    (C : Hp → V → Hp → Prop) (hte : ∀ (X : Hp) (R : VK), Same G X → (∀ one X', C X one X' → R one X') → te σ X R)
    (step : ∀ X one X', Same G X → C X one X' → LstN N X' ∧ X' cb = some (.tup (vs.map V.int)) ∧ FrX N X X' ∧ ∃ d, Dq N X' one d ∧ Oq d 1 101)
    (q : ∀ X one X' X'' c d, Same G X → C X one X' → Same X' X'' → Dq N X'' (.ref c) d → Oq d 4 30000 → Q (.ref c) X'') :
    tOp (rCatA K) (tOp (rCatA K) (tSl (rSlA K) (tVar 6) tNoPart (tPart (tVar 12))) (tTup (tCons te tNil))) (tSl (rSlA K) (tVar 6) (tPart (tOp (rI0 fun i j => V.int (i + j)) (tVar 12) (tC (V.int 1)))) tNoPart) σ G Q := by
  have ncb : ¬ N cb := lN.tup hcb
  have leaf := oqI small
  have lv : (vs.map PyData.int).length ≤ 5 := by rw [List.length_map]; exact l5
  refine ⟨.ref cb, h6, .int at_, h12, at_, rfl, ?_⟩
  refine sl_ok lN.out (tupI hcb ncb) fun x1 A1 es1 v1 T1 sub1 => ?_
  refine hte A1 _ v1 fun one A2 c2 => ?_
  obtain ⟨lN2, hcb2, fx, d, qd, wd⟩ := step A1 one A2 v1 c2
  refine ⟨by show 1 ≤ sizeLine; decide, fun x2 nx2 => ?_⟩
  have v2 := same_upd (o := .tup [one]) nx2
  have T1' := T1.fr fx
  have T2 : TupD N (upd A2 x2 (.tup [one])) x2 [d] := ⟨_, upd_same, lN2.out x2 nx2, .cons (qd.fr (FrX.same v2)) .nil⟩
  refine cat_ok (lN2.same v2).out (T1'.fr (FrX.same v2)) T2 (by have := sub1.length_le; rw [List.length_singleton]; omega) fun x3 A3 v3 T3 => ?_
  have v23 := v2.trans v3
  refine ⟨.ref cb, h6, .int at_, h12, at_, 1, rfl, rfl, at_ + 1, rfl, ?_⟩
  show tNoPart _ A3 _
  unfold tNoPart
  refine sl_ok (lN2.same v23).out ((tupI hcb2 ncb).fr (FrX.same v23)) fun x4 A4 es4 v4 T4 sub4 => ?_
  have v24 := v23.trans v4
  refine cat_ok (lN2.same v24).out (T3.fr (FrX.same v4)) T4 (by have := sub1.length_le; have := sub4.length_le; rw [List.length_append, List.length_singleton]; omega) fun x5 A5 v5 T5 => ?_
  have up1 : ∀ d ∈ vs.map PyData.int, Oq d 1 101 := fun d hd => (leaf d hd).mono (by decide) (by decide)
  refine q A1 one A2 A5 x5 _ v1 c2 (v24.trans v5) T5.dq ((Oq.tup (dp := 1) (wt := 101) (n := 90) (fun d' hd => ?_) (by have := sub1.length_le; have := sub4.length_le; rw [List.length_append, List.length_append, List.length_singleton]; omega)).mono (by decide) (by decide))
  rcases List.mem_append.mp hd with hd | hd
  · rcases List.mem_append.mp hd with hd | hd
    · exact up1 d' (sub1.subset hd)
    · rw [List.mem_singleton.mp hd]; exact wd
  · exact up1 d' (sub4.subset hd)
abbrev NBe : List Str := ["_law_pot_here", "_law_chosen", "_law_some", "_law_a", "_law_b", "_law_drawn", "_law_base", "_law_i", "_law_k", "_law_j", "_law_l", "_law_turn", "_law_at", "_law_odd", "_law_bends"]
theorem scBent : FnScope NBe ["_law_pot_here", "_law_chosen", "_law_some"] (defScope sBent) := ⟨rfl, rfl, rfl, by decide +kernel, rfl, by decide +kernel, by decide +kernel⟩
def spBent : Sp := fun vs H Q _ => ∃ (p t ls : Addr) (a b n : Nat) (xs ys : List Int) (ms : List V) (N : Addr → Prop), vs = [.ref p, .ref t, .ref ls] ∧ a ≤ 6 ∧ b ≤ 6 ∧ PotAt H p n ∧ n < 900000 ∧ PickAt H t a b xs ys ∧ H ls = some (.lst ms) ∧ ls ≠ p ∧ ms.length ≤ 1000 ∧ (∀ v ∈ ms, FiveAt H v) ∧ N p ∧ LstN N H ∧
  ∀ (v : V) (d : PyData) H', Fr p H H' → PotAt H' p (n + 9) → TF N H' v d → Q v H'
theorem ok_bent {f fO fT : Addr} {fd fdO fdT : FuncData} {k : Nat} (F : Fun K "_law_bent" "_law_bent" sBent f fd) (FO : Fun K "_law_of" "_law_of" sOf fO fdO) (FT : Fun K "_law_take" "_law_take" sTake fT fdT) (bO : Binds K fdO ["_law_pot_here", "_law_some"] []) (bT : Binds K fdT ["_law_pot_here", "_law_many"] [])
    (gO : mg "_law_of" = some (.ref fO)) (gT : mg "_law_take" = some (.ref fT)) (ml : mg "len" = none) (mlist : mg "list" = none) : FnOk P w K mg base CX0 (k + 3) f fd ["_law_pot_here", "_law_chosen", "_law_some"] spBent := by
  have GT : FnOk P w K mg base CX0 1 fT fdT ["_law_pot_here", "_law_many"] spTake := ok_take FT
  have GO : FnOk P w K mg base CX0 (k + 2) fO fdO ["_law_pot_here", "_law_some"] (spOf K) := ok_of FO FT bT gT ml
  refine F.ok scBent (fun vs H Q E h => ?_) (fun cdv A outer s H vs Q E hr h => ?_)
  · obtain ⟨p, t, ls, a, b, n, xs, ys, ms, N, rfl, _⟩ := h
    rfl
  · obtain ⟨p, t, ls, a, b, n, xs, ys, ms, N, rfl, a6, b6, hP, hn, pk, hls, nls, lms, five, np, lN, q⟩ := h
    have nd := scBent.nd
    refine ⟨_, pss_cons (ps_par (i := 3) (j := 4) rfl nd rfl rfl (by decide) rfl rfl (pa_cons (pe_callB call_len_seq (by rfl) ml PySem.boot_len (pa_cons (pe_ix ix_tup (pv 1) pe_int (fun _ _ => rfl)) pa_nil)) (pa_cons (pe_callB call_len_seq (by rfl) ml PySem.boot_len (pa_cons (pe_ix ix_tup (pv 1) pe_int (fun _ _ => rfl)) pa_nil)) pa_nil)) rfl)
      (pss_cons (ps_set (i := 5) nd rfl (.inl rfl) (pe_tup (pa_cons (pe_call GT (hr.mono (by omega)) (by rfl) gT FT.kp bT .nil pass0 (pa_cons (pv 0) (pa_cons (pe_op op_add (pv 3) pe_int) pa_nil))) (pa_cons (pe_call GT (hr.mono (by omega)) (by rfl) gT FT.kp bT .nil pass0 (pa_cons (pv 0) (pa_cons (pe_op op_add (pv 3) pe_int) pa_nil))) (pa_cons (pe_call GT (hr.mono (by omega)) (by rfl) gT FT.kp bT .nil pass0 (pa_cons (pv 0) (pa_cons (pe_op op_add (pv 4) pe_int) pa_nil))) (pa_cons (pe_call GT (hr.mono (by omega)) (by rfl) gT FT.kp bT .nil pass0 (pa_cons (pv 0) (pa_cons (pe_op op_add (pv 4) pe_int) pa_nil))) pa_nil))))))
      (pss_cons (ps_set (i := 5) nd rfl (.inl rfl) (pe_op op_catA (pv 5) (pe_tup (pa_cons (pe_op op_sub pe_int (pe_call GT (hr.mono (by omega)) (by rfl) gT FT.kp bT .nil pass0 (pa_cons (pv 0) (pa_cons pe_int pa_nil)))) pa_nil))))
      (pss_cons (ps_set (i := 6) nd rfl (.inl rfl) (pe_call GO hr (by rfl) gO FO.kp bO .nil pass0 (pa_cons (pv 0) (pa_cons (pe_op op_cat (pe_op op_cat (pv 2) (pv 2)) (pe_lst (pa_cons (pv 5) pa_nil))) pa_nil))))
      (pss_cons (ps_asg (pv 6) (pg_tup rfl (pgs_cons (pg_name (i := 7) nd rfl (.inl rfl)) (pgs_cons (pg_name (i := 8) nd rfl (.inl rfl)) (pgs_cons (pg_name (i := 9) nd rfl (.inl rfl)) (pgs_cons (pg_name (i := 10) nd rfl (.inl rfl)) (pgs_cons (pg_name (i := 11) nd rfl (.inl rfl)) pgs_nil)))))))
      (pss_cons (ps_par (i := 12) (j := 13) rfl nd rfl rfl (by decide) rfl rfl (pa_cons (pe_call GT (hr.mono (by omega)) (by rfl) gT FT.kp bT .nil pass0 (pa_cons (pv 0) (pa_cons pe_int pa_nil))) (pa_cons (pe_lst (pa_cons pe_bl (pa_cons pe_bl (pa_cons pe_non (pa_cons pe_str (pa_cons (pe_un un_neg pe_int) (pa_cons pe_int (pa_cons pe_int (pa_cons pe_int (pa_cons (pv 3) (pa_cons (pv 4) (pa_cons (pe_tup (pa_cons pe_int pa_nil)) (pa_cons (pe_op op_pow pe_int pe_int) pa_nil))))))))))))) pa_nil)) rfl)
      (pss_cons (ps_set (i := 14) nd rfl (.inl rfl) (pe_lst (pa_cons (pv 6) (pa_cons (pe_tup (pa_cons (pv 8) (pa_cons (pv 7) (pa_cons (pv 9) (pa_cons (pv 10) (pa_cons (pv 11) pa_nil)))))) (pa_cons (pe_tup (pa_cons (pv 7) (pa_cons (pv 8) (pa_cons (pv 10) (pa_cons (pv 9) (pa_cons (pv 11) pa_nil)))))) (pa_cons (pe_tup (pa_cons (pv 9) (pa_cons (pv 10) (pa_cons (pv 7) (pa_cons (pv 8) (pa_cons (pv 11) pa_nil)))))) (pa_cons (pe_tup (pa_cons (pv 7) (pa_cons (pv 8) (pa_cons (pv 9) (pa_cons (pv 10) (pa_cons (pe_un un_neg (pv 11)) pa_nil)))))) (pa_cons (pe_tup (pa_cons (pv 7) (pa_cons (pv 9) (pa_cons (pv 8) (pa_cons (pv 10) (pa_cons (pv 11) pa_nil)))))) pa_nil))))))))
      (pss_cons (ps_expr (pe_bm PySem.F.plainAttrs_list PySem.F.slot_list_extend PySem.F.type_list_extend mt_extend (pv 14) (pa_cons (pe_lst (pa_cons (pe_op op_catA (pv 6) (pe_tup (pa_cons pe_int pa_nil))) (pa_cons (pe_slice sl_tupA (pv 6) po_none (po_some pe_int)) (pa_cons (pe_callTy call_list_of (by rfl) mlist (by decide +kernel) (pa_cons (pv 6) pa_nil)) (pa_cons (pe_tup (pa_cons (pv 7) (pa_cons (pv 8) (pa_cons (pv 9) (pa_cons (pv 10) (pa_cons (pe_cmpR op_eq (pv 11) pe_int (nomark _)) pa_nil)))))) (pa_cons (pe_tup (pa_cons (pe_tup (pa_cons (pv 7) (pa_cons (pv 8) pa_nil))) (pa_cons (pe_tup (pa_cons (pv 9) (pa_cons (pv 10) pa_nil))) (pa_cons (pv 11) pa_nil)))) (pa_cons (pe_tup (pa_cons (pv 6) pa_nil)) (pa_cons (pv 5) pa_nil)))))))) pa_nil)))
      (pss_cons (ps_expr (pe_bm PySem.F.plainAttrs_list PySem.F.slot_list_extend PySem.F.type_list_extend mt_extend (pv 14) (pa_cons (pe_lst (pa_cons (pe_op op_catA (pe_op op_catA (pe_slice sl_tupA (pv 6) po_none (po_some (pv 12))) (pe_tup (pa_cons (pe_call GO hr (by rfl) gO FO.kp bO .nil pass0 (pa_cons (pv 0) (pa_cons (pv 13) pa_nil))) pa_nil))) (pe_slice sl_tupA (pv 6) (po_some (pe_op op_add (pv 12) pe_int)) po_none)) (pa_cons (pe_op op_catA (pe_op op_catA (pe_slice sl_tupA (pv 6) po_none (po_some (pv 12))) (pe_tup (pa_cons (pe_op op_add (pe_ix ix_tup (pv 6) (pv 12) (fun _ _ => rfl)) pe_int) pa_nil))) (pe_slice sl_tupA (pv 6) (po_some (pe_op op_add (pv 12) pe_int)) po_none)) pa_nil))) pa_nil)))
      (pss_one (ps_ret (pe_call GO hr (by rfl) gO FO.kp bO .nil pass0 (pa_cons (pv 0) (pa_cons (pe_op op_cat (pv 14) (pe_lst (pa_cons (pe_op op_catA (pe_op op_catA (pe_slice sl_tupA (pv 6) po_none (po_some (pv 12))) (pe_tup (pa_cons (pe_op op_sub (pe_ix ix_tup (pv 6) (pv 12) (fun _ _ => rfl)) pe_int) pa_nil))) (pe_slice sl_tupA (pv 6) (po_some (pe_op op_add (pv 12) pe_int)) po_none)) (pa_cons pe_non (pa_cons (pe_tup pa_nil) (pa_cons (pe_lst pa_nil) (pa_cons pe_dnewK (pa_cons pe_int (pa_cons pe_str (pa_cons pe_bl pa_nil)))))))))) pa_nil))))))))))))), ?_⟩
    obtain ⟨tx, ty, k1, k2, k3, l1, l2, u1, u2⟩ := id pk
    refine ⟨.ref t, rfl, t, _, 1, .ref ty, rfl, rfl, .inl (.inl k1), rfl, ty, _, rfl, .inr (.inl (.inl k3)), .ref t, rfl, t, _, 0, .ref tx, rfl, rfl, .inl (.inl k1), rfl, tx, _, rfl, .inr (.inl (.inl k2)), _, _, rfl, ?_⟩
    show tSeq _ _ _ [some (.ref p), some (.ref t), some (.ref ls), some (.int ((ys.map V.int).length : Nat)), some (.int ((xs.map V.int).length : Nat)), none, none, none, none, none, none, none, none, none, none] _
    rw [List.length_map, List.length_map, l1, l2]
    refine ⟨.ref p, rfl, .int (a : Int), rfl, _, _, rfl, rfl, p, _, n, rfl, hP, by omega, by omega, by omega, fun d1 H1 f1 P1 d10 d11 => ?_⟩
    refine ⟨.ref p, rfl, .int (a : Int), rfl, _, _, rfl, rfl, p, _, n + 1, rfl, P1, by omega, by omega, by omega, fun d2 H2 f2 P2 d20 d21 => ?_⟩
    refine ⟨.ref p, rfl, .int (b : Int), rfl, _, _, rfl, rfl, p, _, n + 2, rfl, P2, by omega, by omega, by omega, fun d3 H3 f3 P3 d30 d31 => ?_⟩
    refine ⟨.ref p, rfl, .int (b : Int), rfl, _, _, rfl, rfl, p, _, n + 3, rfl, P3, by omega, by omega, by omega, fun d4 H4 f4 P4 d40 d41 => ?_⟩
    refine ⟨by show 4 ≤ sizeLine; decide, fun c5 n5 => ?_⟩
    have e5 := same_upd (o := .tup [.int d1, .int d2, .int d3, .int d4]) n5
    have nc5 : c5 ≠ p := P4.ne n5
    refine ⟨.ref c5, rfl, .ref p, rfl, p, 3, n + 4, rfl, P4.same e5, by omega, by decide, by decide, fun d5 H5 f5 P5 d50 d51 => ⟨_, _, rfl, rfl, by show 1 ≤ sizeLine; decide, fun c6 n6 => ?_⟩⟩
    have e6 := same_upd (o := .tup [.int (1 - d5)]) n6
    have h5 := e6 _ _ (f5 _ _ nc5 (upd_same (H := H4) (a := c5) (o := .tup [.int d1, .int d2, .int d3, .int d4])))
    refine ⟨c5, c6, _, _, rfl, rfl, .inl (.inl h5), .inl (.inl upd_same), by show 5 ≤ sizeLine; decide, (fun z => by cases z), (fun _ z => by cases z), fun _ _ cd ncd => ?_⟩
    have e7 := same_upd (o := .tup [.int d1, .int d2, .int d3, .int d4, .int (1 - d5)]) ncd
    have f7 : Fr p H (upd (upd H5 c6 (.tup [.int (1 - d5)])) cd (.tup [.int d1, .int d2, .int d3, .int d4, .int (1 - d5)])) := f1.trans (f2.trans (f3.trans (f4.trans ((Fr.same e5).trans (f5.trans (Fr.same (e6.trans e7)))))))
    have P7 := (P5.same e6).same e7
    have hd := upd_same (H := upd H5 c6 (.tup [.int (1 - d5)])) (a := cd) (o := .tup [.int d1, .int d2, .int d3, .int d4, .int (1 - d5)])
    show tSeq _ _ _ [some (.ref p), some (.ref t), some (.ref ls), some (.int (a : Int)), some (.int (b : Int)), some (.ref cd), none, none, none, none, none, none, none, none, none] (upd (upd H5 c6 (.tup [.int (1 - d5)])) cd (.tup [.int d1, .int d2, .int d3, .int d4, .int (1 - d5)]))
    generalize upd (upd H5 c6 (.tup [.int (1 - d5)])) cd (.tup [.int d1, .int d2, .int d3, .int d4, .int (1 - d5)]) = G7 at f7 P7 hd
    have hls7 := f7 _ _ nls hls
    refine ⟨.ref p, rfl, .ref ls, rfl, .ref ls, rfl, ls, ls, ms, ms, rfl, rfl, hls7, hls7, Nat.le_trans (show ms.length + ms.length ≤ 4000 by omega) (by decide), fun m1 nm1 => ?_⟩
    have g1 := same_upd (o := .lst (ms ++ ms)) nm1
    refine ⟨.ref cd, rfl, by show 1 ≤ sizeLine; decide, fun m2 nm2 => ?_⟩
    have g2 := same_upd (o := .lst [.ref cd]) nm2
    refine ⟨m1, m2, _, _, rfl, rfl, g2 _ _ upd_same, upd_same, Nat.le_trans (show (ms ++ ms).length + 1 ≤ 4000 by rw [List.length_append]; omega) (by decide), fun m3 nm3 => ?_⟩
    have g3 := same_upd (o := .lst ((ms ++ ms) ++ [.ref cd])) nm3
    have g13 := g1.trans (g2.trans g3)
    have P8 := P7.same g13
    refine ⟨p, m3, _, n + 5, rfl, P8, by omega, ((P7.same g1).same g2).ne nm3, .inl (.inl upd_same), by rw [List.length_append, List.length_singleton]; omega, by rw [List.length_append, List.length_append, List.length_singleton]; omega, fun vb Hb fb Pb mem => ?_⟩
    have fB : Fr p H Hb := f7.trans ((Fr.same g13).trans fb)
    have tne : ∀ {X : Hp} {c : Addr} {us : List V} {m : Nat}, PotAt X p m → X c = some (.tup us) → c ≠ p := fun h e z => by
      obtain ⟨_, _, _, h, _⟩ := h
      rw [z, h] at e; cases e
    obtain ⟨cb, i, k, j, l, tt, rfl, hcb, fv⟩ : FiveAt Hb vb := by
      rcases List.mem_append.mp mem with mem | mem
      · obtain ⟨c, i, k, j, l, tt, rfl, hc, fv⟩ := five vb ((List.mem_append.mp mem).elim id id)
        exact ⟨c, i, k, j, l, tt, rfl, fB _ _ (tne hP hc) hc, fv⟩
      · rw [List.mem_singleton.mp mem]
        exact ⟨cd, d1, d2, d3, d4, 1 - d5, rfl, fb _ _ (tne P7 hd) (g13 _ _ hd), ⟨by omega, by omega, by omega, by omega, by omega⟩⟩
    have hd8 := fb _ _ (tne P7 hd) (g13 _ _ hd)
    have fd : Fv d1 d2 d3 d4 (1 - d5) := ⟨by omega, by omega, by omega, by omega, by omega⟩
    refine ⟨.ref cb, rfl, cb, _, rfl, .inl (.inl hcb), rfl, _, _, rfl, _, _, rfl, _, _, rfl, _, _, rfl, _, _, rfl, rfl, ?_⟩
    show tSeq _ _ _ [some (.ref p), some (.ref t), some (.ref ls), some (.int (a : Int)), some (.int (b : Int)), some (.ref cd), some (.ref cb), some (.int i), some (.int k), some (.int j), some (.int l), some (.int tt), none, none, none] Hb
    refine ⟨.ref p, rfl, p, 5, n + 6, rfl, Pb, by omega, by decide, by decide, fun at_ H9 f9 P9 a0 a1 => ⟨1, rfl, .int (a : Int), rfl, .int (b : Int), rfl, by show 1 ≤ sizeLine; decide, fun t1 nt1 => ⟨10, 29, rfl, rfl, pow29, by show 12 ≤ sizeLine; decide, fun l13 n13 => ⟨_, _, rfl, ?_⟩⟩⟩⟩
    have e9 := same_upd (o := .tup [.int 1]) nt1
    have e10 := same_upd (o := .lst [.bl true, .bl false, .non, .str "1", .int (-1), .int 0, .int 1, .int 2, .int (a : Int), .int (b : Int), .ref t1, .int ((10 : Int) ^ (29 : Int).toNat)]) n13
    have L9N := (lN.fr fB Pb).fr f9 P9
    have up : ∀ {d : PyData}, Oq d 0 100 → Oq d 1 101 := fun h => h.mono (by decide) (by decide)
    have odd : Thgs N (upd H9 t1 (.tup [.int 1])) [.bl true, .bl false, .non, .str "1", .int (-1), .int 0, .int 1, .int 2, .int (a : Int), .int (b : Int), .ref t1, .int ((10 : Int) ^ (29 : Int).toNat)] 1 101 :=
      .cons (.bl _) (up (oq_bl _)) (.cons (.bl _) (up (oq_bl _)) (.cons .non (up oq_non) (.cons (.str _) (up oq_str1) (.cons (.int _) (up oq_less) (.cons (.int _) (up (oq_int (by decide) (by decide))) (.cons (.int _) (up (oq_int (by decide) (by decide))) (.cons (.int _) (up (oq_int (by decide) (by decide)))
        (.cons (.int _) (up (oq_int (by omega) (by omega))) (.cons (.int _) (up (oq_int (by omega) (by omega))) (.cons (tupI (vs := [1]) upd_same (L9N.out t1 nt1)).dq (Oq.tup (dp := 0) (wt := 100) (n := 1) (oqI fun v hv => by rw [List.mem_singleton.mp hv]; decide) (by decide)) (.cons (.int _) (up oq_great) .nil)))))))))))
    have odd10 := odd.fr (FrX.same e10)
    have e910 := e9.trans e10
    have P10 := P9.same e910
    have L10N := L9N.same e910
    have h13 := upd_same (H := upd H9 t1 (.tup [.int 1])) (a := l13) (o := .lst [.bl true, .bl false, .non, .str "1", .int (-1), .int 0, .int 1, .int 2, .int (a : Int), .int (b : Int), .ref t1, .int ((10 : Int) ^ (29 : Int).toNat)])
    have n13p : l13 ≠ p := (P9.same e9).ne n13
    have ncbp := tne Pb hcb
    have ncdp := tne Pb hd8
    have hcb10 := e910 _ _ (f9 _ _ ncbp hcb)
    have hd10 := e910 _ _ (f9 _ _ ncdp hd8)
    have f10 := fB.trans (f9.trans (Fr.same e910))
    have lo12 : [V.bl true, .bl false, .non, .str "1", .int (-1), .int 0, .int 1, .int 2, .int (a : Int), .int (b : Int), .ref t1, .int ((10 : Int) ^ (29 : Int).toNat)].length = 12 := rfl
    generalize upd (upd H9 t1 (.tup [.int 1])) l13 (.lst [.bl true, .bl false, .non, .str "1", .int (-1), .int 0, .int 1, .int 2, .int (a : Int), .int (b : Int), .ref t1, .int ((10 : Int) ^ (29 : Int).toNat)]) = G10 at odd10 P10 L10N h13 hcb10 hd10 f10
    generalize [V.bl true, .bl false, .non, .str "1", .int (-1), .int 0, .int 1, .int 2, .int (a : Int), .int (b : Int), .ref t1, .int ((10 : Int) ^ (29 : Int).toNat)] = os at odd10 h13 lo12
    show tSeq _ _ _ [some (.ref p), some (.ref t), some (.ref ls), some (.int (a : Int)), some (.int (b : Int)), some (.ref cd), some (.ref cb), some (.int i), some (.int k), some (.int j), some (.int l), some (.int tt), some (.int at_), some (.ref l13), none] G10
    obtain ⟨vi, vk, vj, vl, vt⟩ := id fv
    have s5 : 5 ≤ sizeLine := by decide
    refine ⟨.ref cb, rfl, .int k, rfl, .int i, rfl, .int j, rfl, .int l, rfl, .int tt, rfl, s5, fun w1 m1 => ⟨.int i, rfl, .int k, rfl, .int l, rfl, .int j, rfl, .int tt, rfl, s5, fun w2 m2 => ⟨.int j, rfl, .int l, rfl, .int i, rfl, .int k, rfl, .int tt, rfl, s5, fun w3 m3 =>
      ⟨.int i, rfl, .int k, rfl, .int j, rfl, .int l, rfl, .int tt, rfl, tt, rfl, s5, fun w4 m4 => ⟨.int i, rfl, .int j, rfl, .int k, rfl, .int l, rfl, .int tt, rfl, s5, fun w5 m5 => ⟨by show 6 ≤ sizeLine; decide, fun l14 n14 => ?_⟩⟩⟩⟩⟩⟩
    have r1 := same_upd (o := .tup [.int k, .int i, .int j, .int l, .int tt]) m1
    have r2 := same_upd (o := .tup [.int i, .int k, .int l, .int j, .int tt]) m2
    have r3 := same_upd (o := .tup [.int j, .int l, .int i, .int k, .int tt]) m3
    have r4 := same_upd (o := .tup [.int i, .int k, .int j, .int l, .int (-tt)]) m4
    have r5 := same_upd (o := .tup [.int i, .int j, .int k, .int l, .int tt]) m5
    have x1 := L10N.same r1
    have x2 := x1.same r2
    have x3 := x2.same r3
    have x4 := x3.same r4
    have x5 := x4.same r5
    have q1 := newT (vs := [k, i, j, l, tt]) L10N m1
    have q2 := newT (vs := [i, k, l, j, tt]) x1 m2
    have q3 := newT (vs := [j, l, i, k, tt]) x2 m3
    have q4 := newT (vs := [i, k, j, l, -tt]) x3 m4
    have q5 := newT (vs := [i, j, k, l, tt]) x4 m5
    have q0 := tupI (E := N) (vs := [i, k, j, l, tt]) hcb10 (L10N.tup hcb10)
    have qd := tupI (E := N) (vs := [d1, d2, d3, d4, 1 - d5]) hd10 (L10N.tup hd10)
    have o5 : ∀ {z1 z2 z3 z4 z5 : Int}, (∀ v ∈ [z1, z2, z3, z4, z5], -2 ≤ v ∧ v < 64) → Oq (.tuple ([z1, z2, z3, z4, z5].map PyData.int)) 4 30000 := fun h => (flatO (oqI h) (by show 5 ≤ 90; decide)).mono (by decide) (by decide)
    have sm5 : ∀ {z1 z2 z3 z4 z5 : Int}, (-2 ≤ z1 ∧ z1 < 64) → (-2 ≤ z2 ∧ z2 < 64) → (-2 ≤ z3 ∧ z3 < 64) → (-2 ≤ z4 ∧ z4 < 64) → (-2 ≤ z5 ∧ z5 < 64) → ∀ v ∈ [z1, z2, z3, z4, z5], -2 ≤ v ∧ v < 64 := fun a1 a2 a3 a4 a5 v hv => by
      simp only [List.mem_cons, List.not_mem_nil, or_false] at hv
      omega
    have ob := o5 fv.mem
    have r15 := r1.trans (r2.trans (r3.trans (r4.trans r5)))
    have b0 : Thgs N _ [.ref cb, .ref w1, .ref w2, .ref w3, .ref w4, .ref w5] 4 30000 :=
      .cons (q0.fr (FrX.same r15)).dq ob (.cons (q1.fr (FrX.same (r2.trans (r3.trans (r4.trans r5))))).dq (o5 (sm5 (by omega) (by omega) (by omega) (by omega) (by omega))) (.cons (q2.fr (FrX.same (r3.trans (r4.trans r5)))).dq (o5 (sm5 (by omega) (by omega) (by omega) (by omega) (by omega)))
        (.cons (q3.fr (FrX.same (r4.trans r5))).dq (o5 (sm5 (by omega) (by omega) (by omega) (by omega) (by omega))) (.cons (q4.fr (FrX.same r5)).dq (o5 (sm5 (by omega) (by omega) (by omega) (by omega) (by omega))) (.cons q5.dq (o5 (sm5 (by omega) (by omega) (by omega) (by omega) (by omega))) .nil)))))
    have r6 := same_upd (o := .lst [.ref cb, .ref w1, .ref w2, .ref w3, .ref w4, .ref w5]) n14
    have h14 := upd_same (a := l14) (o := .lst [.ref cb, .ref w1, .ref w2, .ref w3, .ref w4, .ref w5]) (H := upd (upd (upd (upd (upd G10 w1 (.tup [.int k, .int i, .int j, .int l, .int tt])) w2 (.tup [.int i, .int k, .int l, .int j, .int tt])) w3 (.tup [.int j, .int l, .int i, .int k, .int tt])) w4 (.tup [.int i, .int k, .int j, .int l, .int (-tt)])) w5 (.tup [.int i, .int j, .int k, .int l, .int tt]))
    have b14 : Thgs (fun x => N x ∨ x = l14) _ [.ref cb, .ref w1, .ref w2, .ref w3, .ref w4, .ref w5] 4 30000 := fun v hv => by
      obtain ⟨d, x, y⟩ := b0 v hv
      exact ⟨d, (x.more n14).fr (FrX.same r6), y⟩
    have L14 := (x5.same r6).more h14
    have r16 := r15.trans r6
    have P14 := P10.same r16
    have n14p : l14 ≠ p := ((P10.same r15)).ne n14
    have g14 : H l14 = none := (f10.trans (Fr.same r15)).free n14p n14
    have odd14 : Thgs (fun x => N x ∨ x = l14) _ os 1 101 := fun v hv => by
      obtain ⟨d, x, y⟩ := odd10 v hv
      exact ⟨d, ((x.fr (FrX.same r15)).more n14).fr (FrX.same r6), y⟩
    have hcb14 := r16 _ _ hcb10
    have hd14 := r16 _ _ hd10
    have h1314 := r16 _ _ h13
    have f14 := f10.trans (Fr.same r16)
    have ne1413 : l13 ≠ l14 := fun z => by rw [← z, r15 _ _ h13] at n14; cases n14
    generalize upd (upd (upd (upd (upd (upd G10 w1 (.tup [.int k, .int i, .int j, .int l, .int tt])) w2 (.tup [.int i, .int k, .int l, .int j, .int tt])) w3 (.tup [.int j, .int l, .int i, .int k, .int tt])) w4 (.tup [.int i, .int k, .int j, .int l, .int (-tt)])) w5 (.tup [.int i, .int j, .int k, .int l, .int tt])) l14 (.lst [.ref cb, .ref w1, .ref w2, .ref w3, .ref w4, .ref w5]) = G14 at b14 h14 L14 P14 odd14 hcb14 hd14 h1314 f14
    have lb14 : [V.ref cb, .ref w1, .ref w2, .ref w3, .ref w4, .ref w5].length = 6 := rfl
    generalize [V.ref cb, .ref w1, .ref w2, .ref w3, .ref w4, .ref w5] = bs at b14 h14 lb14
    show tSeq _ _ _ [some (.ref p), some (.ref t), some (.ref ls), some (.int (a : Int)), some (.int (b : Int)), some (.ref cd), some (.ref cb), some (.int i), some (.int k), some (.int j), some (.int l), some (.int tt), some (.int at_), some (.ref l13), some (.ref l14)] G14
    have qb14 := tupI (E := fun x => N x ∨ x = l14) (vs := [i, k, j, l, tt]) hcb14 (L14.tup hcb14)
    have qd14 := tupI (E := fun x => N x ∨ x = l14) (vs := [d1, d2, d3, d4, 1 - d5]) hd14 (L14.tup hd14)
    refine ⟨.ref l14, rfl, .inl ⟨rfl, _, .inl (.inl h14)⟩, .ref cb, rfl, by show 1 ≤ sizeLine; decide, fun w6 m6 => ?_⟩
    have s1 := same_upd (o := .tup [.int 0]) m6
    refine cat_ok (L14.same s1).out (qb14.fr (FrX.same s1)) (newT (vs := [0]) L14 m6) (by show 6 ≤ 1000; decide) fun c7 X7 s2 T7 => ?_
    have s12 := s1.trans s2
    refine ⟨.ref cb, rfl, 4, rfl, ?_⟩
    refine sl_ok (L14.same s12).out (qb14.fr (FrX.same s12)) fun c8 X8 es8 s3 T8 sub8 => ?_
    have s13 := s12.trans s3
    refine ⟨.ref cb, rfl, cb, _, rfl, .inr (.inl (.inl (s13 _ _ hcb14))), fun w9 m9 => ?_⟩
    have s4 := same_upd (o := .lst [.int i, .int k, .int j, .int l, .int tt]) m9
    have T9 : Dq (fun x => N x ∨ x = l14) (upd X8 w9 (.lst [.int i, .int k, .int j, .int l, .int tt])) (.ref w9) (.list ([i, k, j, l, tt].map PyData.int)) := .lst upd_same ((L14.same s13).out w9 m9) (DqAll.ints [i, k, j, l, tt])
    have s14 := s13.trans s4
    refine ⟨.int i, rfl, .int k, rfl, .int j, rfl, .int l, rfl, .int tt, rfl, rfl, s5, fun w10 m10 => ?_⟩
    have s15' := same_upd (o := .tup [.int i, .int k, .int j, .int l, .bl (decide (V.int tt = V.int 1))]) m10
    have T10 : Dq (fun x => N x ∨ x = l14) (upd (upd X8 w9 (.lst [.int i, .int k, .int j, .int l, .int tt])) w10 (.tup [.int i, .int k, .int j, .int l, .bl (decide (V.int tt = V.int 1))])) (.ref w10) (.tuple [.int i, .int k, .int j, .int l, .bool (decide (V.int tt = V.int 1))]) := .tup upd_same ((L14.same s14).out w10 m10) (.cons (.int _) (.cons (.int _) (.cons (.int _) (.cons (.int _) (.cons (.bl _) .nil)))))
    have s15 := s14.trans s15'
    generalize upd (upd X8 w9 (.lst [.int i, .int k, .int j, .int l, .int tt])) w10 (.tup [.int i, .int k, .int j, .int l, .bl (decide (V.int tt = V.int 1))]) = X10 at s15 T10 s15'
    generalize decide (V.int tt = V.int 1) = B10 at T10
    refine ⟨.int i, rfl, .int k, rfl, by show 2 ≤ sizeLine; decide, fun w11 m11 => ⟨.int j, rfl, .int l, rfl, by show 2 ≤ sizeLine; decide, fun w12 m12 => ⟨.int tt, rfl, by show 3 ≤ sizeLine; decide, fun w13 m13 => ⟨.ref cb, rfl, by show 1 ≤ sizeLine; decide, fun w14 m14 => ⟨.ref cd, rfl, by show 7 ≤ sizeLine; decide, fun l15 n15 => ?_⟩⟩⟩⟩⟩
    have s6 := same_upd (o := .tup [.int i, .int k]) m11
    have s7 := same_upd (o := .tup [.int j, .int l]) m12
    have s8 := same_upd (o := .tup [.ref w11, .ref w12, .int tt]) m13
    have s9 := same_upd (o := .tup [.ref cb]) m14
    have s10 := same_upd (o := .lst [.ref c7, .ref c8, .ref w9, .ref w10, .ref w13, .ref w14, .ref cd]) n15
    have y10 := L14.same s15
    have y11 := y10.same s6
    have y12 := y11.same s7
    have y13 := y12.same s8
    have T11 := newT (vs := [i, k]) y10 m11
    have T12 := newT (vs := [j, l]) y11 m12
    have T13 : Dq (fun x => N x ∨ x = l14) _ (.ref w13) (.tuple [.tuple ([i, k].map PyData.int), .tuple ([j, l].map PyData.int), .int tt]) := .tup (upd_same (H := upd (upd X10 w11 (.tup [.int i, .int k])) w12 (.tup [.int j, .int l])) (a := w13) (o := .tup [.ref w11, .ref w12, .int tt])) (y12.out w13 m13) (.cons (T11.dq.fr (FrX.same (s7.trans s8))) (.cons (T12.dq.fr (FrX.same s8)) (.cons (.int _) .nil)))
    have T14 : Dq (fun x => N x ∨ x = l14) _ (.ref w14) (.tuple [.tuple ([i, k, j, l, tt].map PyData.int)]) := .tup (upd_same (H := upd (upd (upd X10 w11 (.tup [.int i, .int k])) w12 (.tup [.int j, .int l])) w13 (.tup [.ref w11, .ref w12, .int tt])) (a := w14) (o := .tup [.ref cb])) (y13.out w14 m14) (.cons (qb14.dq.fr (FrX.same (s15.trans (s6.trans (s7.trans (s8.trans s9)))))) .nil)
    have leaf := oqI fv.mem
    have z0 : ∀ d ∈ [(0 : Int)].map PyData.int, Oq d 0 100 := oqI fun v hv => by rw [List.mem_singleton.mp hv]; decide
    have O7 : Oq (.tuple ([i, k, j, l, tt].map PyData.int ++ [(0 : Int)].map PyData.int)) 4 30000 := (flatO (fun d hd => (List.mem_append.mp hd).elim (leaf d) (z0 d)) (by show 6 ≤ 90; decide)).mono (by decide) (by decide)
    have O8 : Oq (.tuple es8) 4 30000 := (flatO (fun d hd => leaf d (sub8.subset hd)) (Nat.le_trans sub8.length_le (by show 5 ≤ 90; decide))).mono (by decide) (by decide)
    have O9 : Oq (.list ([i, k, j, l, tt].map PyData.int)) 4 30000 := (Oq.lst (n := 90) leaf (by show 5 ≤ 90; decide)).mono (by decide) (by decide)
    have O10 : Oq (.tuple [.int i, .int k, .int j, .int l, .bool B10]) 4 30000 := (flatO (fun d hd => by
      simp only [List.mem_cons, List.not_mem_nil, or_false] at hd
      rcases hd with rfl | rfl | rfl | rfl | rfl
      · exact oq_small (by omega) (by omega)
      · exact oq_small (by omega) (by omega)
      · exact oq_small (by omega) (by omega)
      · exact oq_small (by omega) (by omega)
      · exact oq_bl _) (by show 5 ≤ 90; decide)).mono (by decide) (by decide)
    have two : ∀ {z1 z2 : Int}, (-2 ≤ z1 ∧ z1 < 64) → (-2 ≤ z2 ∧ z2 < 64) → Oq (.tuple ([z1, z2].map PyData.int)) 1 9090 := fun a1 a2 => flatO (oqI fun v hv => by
      simp only [List.mem_cons, List.not_mem_nil, or_false] at hv
      omega) (by show 2 ≤ 90; decide)
    have O13 : Oq (.tuple [.tuple ([i, k].map PyData.int), .tuple ([j, l].map PyData.int), .int tt]) 4 30000 := (Oq.tup (dp := 1) (wt := 9090) (n := 3) (fun d hd => by
      simp only [List.mem_cons, List.not_mem_nil, or_false] at hd
      rcases hd with rfl | rfl | rfl
      · exact two (by omega) (by omega)
      · exact two (by omega) (by omega)
      · exact (oq_small (by omega) (by omega)).mono (by decide) (by decide)) (by show 3 ≤ 3; decide)).mono (by decide) (by decide)
    have O14 : Oq (.tuple [.tuple ([i, k, j, l, tt].map PyData.int)]) 4 30000 := (Oq.tup (dp := 1) (wt := 9090) (n := 1) (fun d hd => by rw [List.mem_singleton.mp hd]; exact flatO leaf (by show 5 ≤ 90; decide)) (by show 1 ≤ 1; decide)).mono (by decide) (by decide)
    have c9 := s9.trans s10
    have c8' := s8.trans c9
    have c7' := s7.trans c8'
    have c6' := s6.trans c7'
    have cAll := s15.trans c6'
    have b15 : Thgs (fun x => N x ∨ x = l14) _ [.ref c7, .ref c8, .ref w9, .ref w10, .ref w13, .ref w14, .ref cd] 4 30000 :=
      .cons (T7.fr (FrX.same (s3.trans (s4.trans (s15'.trans c6'))))).dq O7 (.cons (T8.fr (FrX.same (s4.trans (s15'.trans c6')))).dq O8 (.cons (T9.fr (FrX.same (s15'.trans c6'))) O9 (.cons (T10.fr (FrX.same c6')) O10 (.cons (T13.fr (FrX.same c9)) O13 (.cons (T14.fr (FrX.same s10)) O14 (.cons (qd14.fr (FrX.same cAll)).dq (o5 fd.mem) .nil))))))
    have h15 := upd_same (H := upd (upd (upd (upd X10 w11 (.tup [.int i, .int k])) w12 (.tup [.int j, .int l])) w13 (.tup [.ref w11, .ref w12, .int tt])) w14 (.tup [.ref cb])) (a := l15) (o := .lst [.ref c7, .ref c8, .ref w9, .ref w10, .ref w13, .ref w14, .ref cd])
    have h14' := cAll _ _ h14
    have b14' := b14.fr (FrX.same cAll)
    have odd15 := odd14.fr (FrX.same cAll)
    have P15 := P14.same cAll
    have L15 := L14.same cAll
    have hcb15 := cAll _ _ hcb14
    have h1315 := cAll _ _ h1314
    have f15 := f14.trans (Fr.same cAll)
    generalize upd (upd (upd (upd (upd X10 w11 (.tup [.int i, .int k])) w12 (.tup [.int j, .int l])) w13 (.tup [.ref w11, .ref w12, .int tt])) w14 (.tup [.ref cb])) l15 (.lst [.ref c7, .ref c8, .ref w9, .ref w10, .ref w13, .ref w14, .ref cd]) = G15 at b15 h15 h14' b14' odd15 P15 L15 hcb15 h1315 f15
    have lb15 : [V.ref c7, .ref c8, .ref w9, .ref w10, .ref w13, .ref w14, .ref cd].length = 7 := rfl
    refine ⟨l14, l15, bs, _, rfl, rfl, h14', h15, Nat.le_trans (show bs.length + 7 ≤ 1000 by omega) (by decide), ?_⟩
    generalize [V.ref c7, .ref c8, .ref w9, .ref w10, .ref w13, .ref w14, .ref cd] = cs at b15 h15 lb15
    have frU : ∀ {X : Hp} {o : HO}, FrX (fun x => N x ∨ x = l14) X (upd X l14 o) := fun b' o' nb hb' => by
      rw [upd_ne (fun z => nb (.inr z))]
      exact hb'
    have frH : ∀ {X : Hp} {o : HO}, Fr p H X → Fr p H (upd X l14 o) := fun f b' o' nb hb' => by
      rw [upd_ne (ne_of_none hb' g14)]
      exact f _ _ nb hb'
    have app : ∀ {X : Hp} {us ws : List V}, Thgs (fun x => N x ∨ x = l14) X us 4 30000 → Thgs (fun x => N x ∨ x = l14) X ws 4 30000 → Thgs (fun x => N x ∨ x = l14) X (us ++ ws) 4 30000 := fun h1 h2 v hv => (List.mem_append.mp hv).elim (h1 v) (h2 v)
    have b16 := app (b14'.fr (frU (o := .lst (bs ++ cs)))) (b15.fr (frU (o := .lst (bs ++ cs))))
    have P16 := P15.at (o := .lst (bs ++ cs)) n14p
    have L16 := L15.set (l := l14) (zs := bs ++ cs)
    have h16 := upd_same (H := G15) (a := l14) (o := .lst (bs ++ cs))
    have ncb14 : cb ≠ l14 := fun z => by rw [z, h14] at hcb14; cases hcb14
    have hcb16 : upd G15 l14 (.lst (bs ++ cs)) cb = some (.tup [.int i, .int k, .int j, .int l, .int tt]) := by rw [upd_ne ncb14]; exact hcb15
    have h1316 : upd G15 l14 (.lst (bs ++ cs)) l13 = some (.lst os) := by rw [upd_ne ne1413]; exact h1315
    have odd16 := odd15.fr (frU (o := .lst (bs ++ cs)))
    have f16 := frH (o := .lst (bs ++ cs)) f15
    have lb16 : (bs ++ cs).length = 13 := by rw [List.length_append, lb14, lb15]
    generalize upd G15 l14 (.lst (bs ++ cs)) = G16 at b16 P16 L16 h16 hcb16 h1316 odd16 f16
    generalize bs ++ cs = bs16 at b16 h16 lb16
    dsimp only
    obtain ⟨va, hva, va0, va1⟩ : ∃ va : Int, atI [V.int i, V.int k, V.int j, V.int l, V.int tt] at_ = some (.int va) ∧ -1 ≤ va ∧ va ≤ 10 := by
      rcases (show at_ = 0 ∨ at_ = 1 ∨ at_ = 2 ∨ at_ = 3 ∨ at_ = 4 by omega) with rfl | rfl | rfl | rfl | rfl
      · exact ⟨i, rfl, by omega, by omega⟩
      · exact ⟨k, rfl, by omega, by omega⟩
      · exact ⟨j, rfl, by omega, by omega⟩
      · exact ⟨l, rfl, by omega, by omega⟩
      · exact ⟨tt, rfl, by omega, by omega⟩
    have plain : ∀ {X : Hp}, LstN (fun x => N x ∨ x = l14) X → X cb = some (.tup [.int i, .int k, .int j, .int l, .int tt]) → ∀ (Y : Hp) (one : V) (Y' : Hp), Same X Y → (Y' = Y ∧ ∃ w : Int, one = .int w ∧ -2 ≤ w ∧ w < 64) → LstN (fun x => N x ∨ x = l14) Y' ∧ Y' cb = some (.tup ([i, k, j, l, tt].map V.int)) ∧ FrX (fun x => N x ∨ x = l14) Y Y' ∧ ∃ d, Dq (fun x => N x ∨ x = l14) Y' one d ∧ Oq d 1 101 := by
      rintro X LX hX Y one Y' sY ⟨rfl, w, rfl, w0, w1⟩
      exact ⟨LX.same sY, sY _ _ hX, fun _ _ _ h => h, _, .int w, (oq_small w0 w1).mono (by decide) (by decide)⟩
    refine ⟨.ref l14, rfl, .inl ⟨rfl, _, .inl (.inl h16)⟩, ?_⟩
    refine tcons_run (tlst_run (tcons_run (mid_ok (N := fun x => N x ∨ x = l14) (cb := cb) (vs := [i, k, j, l, tt]) (at_ := at_) L16 rfl rfl hcb16 fv.mem (by show 5 ≤ 5; decide) (fun X one X' => Fr p X X' ∧ PotAt X' p (n + 8) ∧ one ∈ os) ?_ ?_ ?_)))
    · intro X R sX h
      exact ⟨.ref p, rfl, .ref l13, rfl, p, l13, os, n + 7, rfl, P16.same sX, by omega, n13p, .inl (.inl (sX _ _ h1316)), by omega, by omega, fun v H' f P m => h v H' ⟨f, P, m⟩⟩
    · rintro X one X' sX ⟨f, P, m⟩
      exact ⟨(L16.same sX).fr f P, f _ _ ncbp (sX _ _ hcb16), FrX.of f (.inl np), ((odd16.fr (FrX.same sX)).fr (FrX.of f (.inl np))) one m⟩
    rintro X one X' X1 c1 e1 sX ⟨f, P, m⟩ sX1 D1 O1
    have fA : Fr p G16 X1 := (Fr.same sX).trans (f.trans (Fr.same sX1))
    have PA := P.same sX1
    have LA := L16.fr fA PA
    have hcbA := fA _ _ ncbp hcb16
    refine tcons_run (mid_ok (N := fun x => N x ∨ x = l14) (cb := cb) (vs := [i, k, j, l, tt]) (at_ := at_) LA rfl rfl hcbA fv.mem (by show 5 ≤ 5; decide) (fun X one X' => X' = X ∧ ∃ w : Int, one = .int w ∧ -2 ≤ w ∧ w < 64) ?_ (plain LA hcbA) ?_)
    · intro X R sX h
      exact ⟨.ref cb, rfl, .int at_, rfl, cb, _, at_, .int va, rfl, rfl, .inl (.inl (sX _ _ hcbA)), hva, va, 1, rfl, rfl, h _ _ ⟨rfl, _, rfl, by omega, by omega⟩⟩
    rintro Y one2 Y' X2 c2 e2 sY ⟨rfl, w, rfl, w0, w1⟩ sY2 D2 O2
    have sA := sY.trans sY2
    refine ⟨by show 2 ≤ sizeLine; decide, fun l16 n16 => ?_⟩
    have s16 := same_upd (o := .lst [.ref c1, .ref c2]) n16
    have n14q : l14 ≠ p := n14p
    have h17 := s16 _ _ (sA _ _ (fA _ _ n14q h16))
    refine ⟨l14, l16, bs16, _, rfl, rfl, h17, upd_same, Nat.le_trans (show bs16.length + 2 ≤ 1000 by omega) (by decide), ?_⟩
    have sB := sA.trans s16
    have b17 := app ((b16.fr (FrX.of (fA.trans (Fr.same sB)) (.inl np))).fr (frU (o := .lst (bs16 ++ [.ref c1, .ref c2])))) (.cons ((D1.fr (FrX.same sB)).fr frU) O1 (.cons ((D2.fr (FrX.same s16)).fr frU) O2 .nil))
    have P17 := (PA.same sB).at (o := .lst (bs16 ++ [.ref c1, .ref c2])) n14p
    have L17 := (LA.same sB).set (l := l14) (zs := bs16 ++ [.ref c1, .ref c2])
    have h18 := upd_same (H := upd X2 l16 (.lst [.ref c1, .ref c2])) (a := l14) (o := .lst (bs16 ++ [.ref c1, .ref c2]))
    have hcb17 : upd (upd X2 l16 (.lst [.ref c1, .ref c2])) l14 (.lst (bs16 ++ [.ref c1, .ref c2])) cb = some (.tup [.int i, .int k, .int j, .int l, .int tt]) := by
      rw [upd_ne ncb14]
      exact sB _ _ hcbA
    have f17 := frH (o := .lst (bs16 ++ [.ref c1, .ref c2])) (f16.trans (fA.trans (Fr.same sB)))
    have lb17 : (bs16 ++ [V.ref c1, .ref c2]).length = 15 := by rw [List.length_append, lb16]; rfl
    generalize upd (upd X2 l16 (.lst [.ref c1, .ref c2])) l14 (.lst (bs16 ++ [.ref c1, .ref c2])) = G17 at b17 P17 L17 h18 hcb17 f17
    generalize bs16 ++ [V.ref c1, .ref c2] = bs17 at b17 h18 lb17
    dsimp only
    refine ⟨.ref p, rfl, .ref l14, rfl, ?_⟩
    refine tlst_run (tcons_run (mid_ok (N := fun x => N x ∨ x = l14) (cb := cb) (vs := [i, k, j, l, tt]) (at_ := at_) L17 rfl rfl hcb17 fv.mem (by show 5 ≤ 5; decide) (fun X one X' => X' = X ∧ ∃ w : Int, one = .int w ∧ -2 ≤ w ∧ w < 64) ?_ (plain L17 hcb17) ?_))
    · intro X R sX h
      exact ⟨.ref cb, rfl, .int at_, rfl, cb, _, at_, .int va, rfl, rfl, .inl (.inl (sX _ _ hcb17)), hva, va, 1, rfl, rfl, h _ _ ⟨rfl, _, rfl, by omega, by omega⟩⟩
    rintro Z one3 Z' X3 c3 e3 sZ ⟨rfl, w', rfl, w0', w1'⟩ sZ2 D3 O3
    have sC := sZ.trans sZ2
    refine ⟨by decide, fun z1 nz1 => ⟨by decide, fun z2 nz2 => fun z3 nz3 => ⟨by show 8 ≤ sizeLine; decide, fun l17 n17 => ?_⟩⟩⟩
    have a1' := same_upd (o := .tup []) nz1
    have a2' := same_upd (o := .lst []) nz2
    have a3' := same_upd (o := .dK []) nz3
    have a4' := same_upd (o := .lst [.ref c3, .non, .ref z1, .ref z2, .ref z3, .int 0, .str "", .bl true]) n17
    have LC := L17.same sC
    have LC1 := LC.same a1'
    have LC2 := LC1.same a2'
    have t3 := a3'.trans a4'
    have t2 := a2'.trans t3
    have tAll := a1'.trans t2
    have sD := sC.trans tAll
    have o0 : Oq (.tuple []) 4 30000 := (Oq.tup (ds := []) (dp := 0) (wt := 100) (n := 0) (fun d hd => nomatch hd) (by decide)).mono (by decide) (by decide)
    have o00 : Oq (.list []) 4 30000 := (Oq.lst (ds := []) (dp := 0) (wt := 100) (n := 0) (fun d hd => nomatch hd) (by decide)).mono (by decide) (by decide)
    have i1 := TF.fr (E := fun x => N x ∨ x = l14) (.inl ⟨.tup upd_same (LC.out z1 nz1) .nil, o0⟩) (FrX.same t2)
    have i2 := TF.fr (E := fun x => N x ∨ x = l14) (.inl ⟨.lst upd_same (LC1.out z2 nz2) .nil, o00⟩) (FrX.same t3)
    have i3 := TF.fr (E := fun x => N x ∨ x = l14) (.inr ⟨rfl, z3, rfl, upd_same, LC2.out z3 nz3⟩) (FrX.same a4')
    have big : ∀ {d : PyData}, Oq d 0 100 → Oq d 4 30000 := fun h => h.mono (by decide) (by decide)
    have eight : Tfs (fun x => N x ∨ x = l14) _ [.ref c3, .non, .ref z1, .ref z2, .ref z3, .int 0, .str "", .bl true] := .cons (.inl ⟨D3.fr (FrX.same tAll), O3⟩) (.cons (.inl ⟨.non, big oq_non⟩) (.cons i1 (.cons i2 (.cons i3 (.cons (.inl ⟨.int 0, big (oq_int (v := 0) (by decide) (by decide))⟩) (.cons (.inl ⟨.str "", big oq_void⟩) (.cons (.inl ⟨.bl true, big (oq_bl true)⟩) .nil)))))))
    have rest : Tfs (fun x => N x ∨ x = l14) _ bs17 := fun v hv => by
      obtain ⟨d, x, y⟩ := (b17.fr (FrX.same sD)) v hv
      exact ⟨d, .inl ⟨x, y⟩⟩
    have h19 := sD _ _ h18
    refine ⟨l14, l17, bs17, _, rfl, rfl, h19, upd_same, Nat.le_trans (show bs17.length + 8 ≤ 1000 by omega) (by decide), fun l18 n18 => ?_⟩
    have a5' := same_upd (o := .lst (bs17 ++ [.ref c3, .non, .ref z1, .ref z2, .ref z3, .int 0, .str "", .bl true])) n18
    have P18 := P17.same sD
    refine ⟨p, l18, _, n + 8, rfl, P18.same a5', by omega, P18.ne n18, .inl (.inl upd_same), by rw [List.length_append]; show 0 < _ + 8; omega, by rw [List.length_append, lb17]; show 15 + 8 < 1000000; decide, fun v H' f' P' mem => ?_⟩
    obtain ⟨d, td⟩ := (rest.app eight) v mem
    exact q v d H' (f17.trans ((Fr.same (sD.trans a5')).trans f')) P' ((td.less (F := N) fun a h => .inl h).fr (FrX.of ((Fr.same a5').trans f') np))
end
end C2

namespace C2
set_option Elab.async false
set_option linter.all false
set_option maxRecDepth 100000
set_option maxHeartbeats 1000000
open PySem PySem.Spec PyProof.Rows L2 HT
theorem mills_out {xs ys : List Int} {a b : Nat} {x : List Int} (h : x ∈ millsL xs ys a b) : ∃ (i k j l : Nat) (t : Int), x = five (i, k) (j, l) t ∧ i < k ∧ k < a ∧ j < l ∧ l < b ∧ (t = 1 ∨ t = -1) ∧ isMillB xs ys i k j l t = true := by
  obtain ⟨p, hp, h⟩ := List.mem_flatMap.mp h
  obtain ⟨q, hq, h⟩ := List.mem_flatMap.mp h
  obtain ⟨t, ht, rfl⟩ := List.mem_map.mp h
  obtain ⟨h1, h2⟩ := List.mem_filter.mp ht
  have a1 := pairsN_mem hp
  have a2 := pairsN_mem hq
  refine ⟨p.1, p.2, q.1, q.2, t, rfl, a1.1, a1.2, a2.1, a2.2, ?_, h2⟩
  simp at h1
  omega
theorem pairs15 {n : Nat} (h : n ≤ 6) : (pairsN n).length ≤ 15 := by
  rcases (show n = 0 ∨ n = 1 ∨ n = 2 ∨ n = 3 ∨ n = 4 ∨ n = 5 ∨ n = 6 by omega) with rfl | rfl | rfl | rfl | rfl | rfl | rfl <;> decide +kernel
theorem mills450 {xs ys : List Int} {a b : Nat} (ha : a ≤ 6) (hb : b ≤ 6) : (millsL xs ys a b).length ≤ 450 := by
  have z := flat_le (L := pairsN a) (f := millsRow xs ys b) (c := 30) fun p _ => by
    have y := flat_le (L := pairsN b) (f := fun q => (turnsOf xs ys p q).map (five p q)) (c := 2) fun q _ => by
      rw [List.length_map]
      exact List.length_filter_le _ _
    exact Nat.le_trans y (Nat.mul_le_mul_right 2 (pairs15 hb))
  exact Nat.le_trans z (Nat.mul_le_mul_right 30 (pairs15 ha))
/-! ### repr of a pick beside a thing -/
abbrev dPick (xs ys : List Int) : PyData := .tuple [.tuple (xs.map PyData.int), .tuple (ys.map PyData.int)]
theorem ints_read {h : Heap} : ∀ {vs : List Int} {us : List Value}, Vals (vs.map V.int) us → ReadsAll h us (vs.map PyData.int) []
  | [], us, r => by
    rw [List.map_nil] at r
    cases r
    exact .nil
  | v :: vs, us, r => by
    rw [List.map_cons] at r
    cases r with
    | cons r1 r2 =>
      obtain ⟨t, rfl⟩ := r1
      exact .cons (as := []) (bs := []) (.int v t) (ints_read r2)
section
variable {X : Cx} {pins : List (Addr × Obj)} {σ : L2.St} {G : Hp} {s : Shared}
theorem tup_read {c : Addr} {vs : List Int} (I : Inv X pins σ G s) (h : G c = some (.tup (vs.map V.int))) : Reads s.heap (.ref c) (.tuple (vs.map PyData.int)) [] := by
  obtain ⟨us, rv, ⟨ob, g, k, m, dt⟩, _⟩ := I.tuple (.inl (.inl h))
  exact .tuple g k dt (ints_read rv)
theorem pick_read {t : Addr} {a b : Nat} {xs ys : List Int} (I : Inv X pins σ G s) (pk : PickAt G t a b xs ys) : Reads s.heap (.ref t) (dPick xs ys) [] := by
  obtain ⟨tx, ty, k1, k2, k3, _⟩ := pk
  obtain ⟨us, rv, ⟨ob, g, k, m, dt⟩, _⟩ := I.tuple (.inl (.inl k1))
  cases rv with
  | cons r1 r2 => cases r2 with
    | cons r3 r4 =>
      cases r4
      cases r1
      cases r3
      exact .tuple g k dt (.cons (as := []) (bs := []) (tup_read I k2) (.cons (as := []) (bs := []) (tup_read I k3) .nil))
def rReprX : List V → Hp → VK → Prop := fun xs G Q => rReprQ xs G Q ∨ ∃ (T t e : Addr) (a b : Nat) (us ws : List Int), xs = [.ref T] ∧ G T = some (.tup [.ref t, .ref e]) ∧ PickAt G t a b us ws ∧ G e = some (.dK []) ∧ (PyData.tuple [dPick us ws, .dict []]).showable = true ∧ (PyData.tuple [dPick us ws, .dict []]).depth ≤ 60 ∧ (PyData.tuple [dPick us ws, .dict []]).shown.length ≤ sizeLine ∧ Q (.str (PyData.tuple [dPick us ws, .dict []]).shown) G
theorem call_reprX (room : X.A.units + 64 < cLine) (hgd : X.A.guards = some []) : CallR X (.builtin "repr") rReprX := by
  intro pins s σ G xs us R I r h
  rcases h with h | ⟨T, t, e, a, b, us', ws, rfl, hT, pk, he, sh, dp, ln, q⟩
  · exact call_reprQ room hgd pins s σ G xs us R I r h
  · obtain ⟨u, rfl, rel⟩ := vals1 r
    cases rel
    obtain ⟨vs, rv, ⟨ob, g, k, m, dt⟩, _⟩ := I.tuple (.inl (.inl hT))
    obtain ⟨_, ns, kvs, kv, o, es, ep, g2, xd, dt2, _, prs, _⟩ := dk_of I.hok he
    cases kv
    have e0 : es.toList = [] := by
      cases q : es.toList with
      | nil => rfl
      | cons y ys => rw [q] at prs; cases prs
    have rd : Reads s.heap (.ref e) (.dict []) ([e] ++ [] ++ []) := .dict (kvs := []) (as := []) (bs := []) g2 xd.1 dt2 (by rw [e0]; exact .nil) (by rw [e0]; exact .nil)
    cases rv with
    | cons r1 r2 => cases r2 with
      | cons r3 r4 =>
        cases r4
        cases r1
        cases r3
        have rt : Reads s.heap (.ref T) (.tuple [dPick us' ws, .dict []]) ([] ++ (([e] ++ [] ++ []) ++ [])) := .tuple g k dt (.cons (pick_read I pk) (.cons rd .nil))
        refine repr_of_reads' rt sh (fun _ z => ?_) hgd (by omega) (fun _ _ e => e) (fun h' t tk kp => ⟨.str _, G, I.kept (t' := tk) kp, ⟨_, rfl⟩, q⟩) ln
        simp at z
        exact beq_eq_false_iff_ne.mp ns z.symm
/-- repr by what it shows -/
def rReprV : List V → Hp → VK → Prop := fun xs G Q => ∃ S : Str, (∀ R : VK, R (.str S) G → rReprX xs G R) ∧ Q (.str S) G
theorem call_reprV (room : X.A.units + 64 < cLine) (hgd : X.A.guards = some []) : CallR X (.builtin "repr") rReprV := by
  intro pins s σ G xs us R I r h
  obtain ⟨S, f, q⟩ := h
  exact call_reprX room hgd pins s σ G xs us R I r (f R q)
end
theorem oq_pick {a b : Nat} {xs ys : List Int} (ha : a ≤ 40) (hb : b ≤ 40) (lx : xs.length = b) (ly : ys.length = a) (ux : Upto a xs) (uy : Upto b ys) : Oq (dPick xs ys) 2 27273 :=
  Oq.tup (n := 3) (dp := 1) (wt := 9090) (fun d hd => by
    rcases List.mem_cons.mp hd with rfl | hd
    · exact flatO (oq_ints (by omega) ux) (by rw [List.length_map]; omega)
    · rw [List.mem_singleton.mp hd]
      exact flatO (oq_ints (by omega) uy) (by rw [List.length_map]; omega)) (by show 2 ≤ 3; decide)
/-- (pick, thing), shown -/
theorem pair_shown {N : Addr → Prop} {a b : Nat} {xs ys : List Int} {d : PyData} (ha : a ≤ 40) (hb : b ≤ 40) : ∃ S : Str, ∀ (G : Hp) (T t : Addr) (v : V) (R : VK), PickAt G t a b xs ys → TF N G v d → G T = some (.tup [.ref t, v]) → R (.str S) G → rReprX [.ref T] G R := by
  refine ⟨(PyData.tuple [dPick xs ys, d]).shown, fun G T t v R pk tf hT q => ?_⟩
  obtain ⟨tx, ty, k1, k2, k3, l1, l2, u1, u2⟩ := id pk
  have op := oq_pick ha hb l1 l2 u1 u2
  have s4 : 4000000 ≤ sizeLine := by decide
  rcases tf with ⟨h, o⟩ | ⟨rfl, e, rfl, he, ne⟩
  · have dq : Dq (fun _ => False) G (.ref T) (.tuple [dPick xs ys, d]) := .tup hT (fun z => z) (.cons (.tup k1 (fun z => z) (.cons (tupI k2 (fun z => z)).dq (.cons (tupI k3 (fun z => z)).dq .nil))) (.cons (h.less fun a z => z.elim) .nil))
    have oo : Oq (.tuple [dPick xs ys, d]) 5 60002 := Oq.tup (n := 2) (dp := 4) (wt := 30000) (fun d' hd => by
      rcases List.mem_cons.mp hd with rfl | hd
      · exact op.mono (by decide) (by decide)
      · rw [List.mem_singleton.mp hd]; exact o) (by show 2 ≤ 2; decide)
    have z := PyData.shown_le 40 (by decide) _ oo.ls
    have w := oo.wt
    exact .inl (.inl ⟨_, _, _, rfl, dq, oo.sh, oo.hd, Nat.le_trans oo.dp (by decide), by omega, q⟩)
  · have sh : (PyData.tuple [dPick xs ys, .dict []]).showable = true := by
      have := op.sh
      simp only [PyData.showable, PyData.showableAll, PyData.showableKv] at this ⊢
      rw [this]
      rfl
    have dp : (PyData.tuple [dPick xs ys, .dict []]).depth ≤ 60 := by
      have := op.dp
      simp only [PyData.depth, PyData.depthAll, PyData.depthKv] at this ⊢
      omega
    have ls : (PyData.tuple [dPick xs ys, .dict []]).leavesShort 40 = true := by
      have := op.ls
      simp only [PyData.leavesShort, PyData.leavesShortAll, PyData.leavesShortKv] at this ⊢
      rw [this]
      rfl
    have wt : (PyData.tuple [dPick xs ys, .dict []]).weight ≤ 30000 := by
      have := op.wt
      simp only [PyData.weight, PyData.weightAll, PyData.weightKv] at this ⊢
      omega
    have z := PyData.shown_le 40 (by decide) _ ls
    exact .inr ⟨T, t, e, a, b, xs, ys, rfl, hT, pk, he, sh, dp, by omega, q⟩
theorem FiveAt.tf {N : Addr → Prop} {G : Hp} {v : V} (h : FiveAt G v) (lN : LstN N G) : ∃ d, TF N G v d := by
  obtain ⟨c, i, k, j, l, t, rfl, hc, fv⟩ := h
  exact ⟨_, .inl ⟨(tupI (vs := [i, k, j, l, t]) hc (lN.tup hc)).dq, (flatO (oqI fv.mem) (by show 5 ≤ 90; decide)).mono (by decide) (by decide)⟩⟩
/-! ### a call by names alone -/
section
variable {X : Cx} {k : Nat} {f : Addr} {fd : FuncData} {ps ks : List Str} {sp : Sp} {E : XK} {x : Str} {p pos : Pos} {kws : List Keyword} {tk : TA} {g : List Value → List Value → List Value} {gV : List V → List V → List V}
theorem pe_callKW (G : FnOk X.prog X.w X.K X.mg X.base CX0 k f fd ps sp) (room : Room k X.A) (glob : Gl X x) (at_ : X.mg x = some (.ref f)) (kept : PySem.W.keepIn X.K (.ref f) = true) (binds : KBinds X.K fd ps ks g gV) (pass : Passes CX0 X E) (named : PK X kws tk)
    (each : (backToKw pos (keywordEach kws X.env)).all (·.1.isSome) = true := by rfl) (names : (backToKw pos (keywordEach kws X.env)).filterMap (·.1) = ks := by rfl) (plainName : (x == ("__debug__" : Str)) = false := by decide)
    (plain : ((backTo pos (starEach [] X.env)).any (·.1) || (backToKw pos (keywordEach kws X.env)).any (·.1.isNone)) = false := by rfl) : PE X (.Call (.Name x p) [] kws pos) (tCallK sp gV E tNil tk) := by
  constructor
  intro pins s σ H Q I h
  have args := named.run pos pins s σ H _ I h
  refine wpAny_Call_Name_kw (ld_glob I glob at_ (PySem.W.callWith_KW0 (h₀ := X.base) I.ok.mod.kin kept each (thn args ?_) plain) plainName)
  rintro ws s2 ⟨zs, H2, I2, rz, q2⟩
  rw [names]
  exact ⟨I2.kIn, run_fnk (us := []) (vs := []) G room binds pass I2 .nil rz q2⟩
end
/-- two values by name, the second parameter's first -/
def sw2 {α : Type} : List α → List α → List α
  | [], [a, b] => [b, a]
  | _, _ => []
theorem sw2_vals {vs zs : List V} {us ws : List Value} (r : Vals vs us) (rz : Vals zs ws) : Vals (sw2 vs zs) (sw2 us ws) := by
  cases r with
  | cons _ _ => exact .nil
  | nil => cases rz with
    | nil => exact .nil
    | cons r1 r2 => cases r2 with
      | nil => exact .nil
      | cons r3 r4 => cases r4 with
        | nil => exact .cons r3 (.cons r1 .nil)
        | cons _ _ => exact .nil
section
variable {K : PySem.W.Frag}
theorem kb_ismill {f : Addr} {fd : FuncData} (F : Fun K "is_mill" "is_mill" sIsMill f fd) : KBinds K fd ["pick", "thing"] ["thing", "pick"] sw2 sw2 := by
  obtain ⟨v1, v2, v3, v4, v5, v6, v7, v8, v9, rfl, _, _⟩ := F.ex
  refine ⟨fun s us ws _ hl => ?_, fun r rz => sw2_vals r rz⟩
  match us, ws, hl with
  | [], [a, b], _ => exact .of_eq rfl
  | [], [], hl => cases hl
  | [], [_], hl => cases hl
  | [], _ :: _ :: _ :: _, hl => cases hl
  | _ :: _, _, hl => cases hl
end
end C2

namespace C2
set_option Elab.async false
set_option linter.all false
set_option maxRecDepth 100000
set_option maxHeartbeats 1000000
open PySem PySem.Spec PyProof.Rows L2 HT
theorem freshSeq {K : PySem.W.Frag} {p a : Addr} {G G' : Hp} {xs : List V} (h : SqL K G a xs) (n : G p = none) (f : Fr p G G') : SqL K G' a xs := by
  rcases h with (h | ⟨o, h⟩) | h
  · exact .inl (.inl (f _ _ (ne_of_none h n) h))
  · exact .inl (.inr ⟨o, f _ _ (ne_of_none h n) h⟩)
  · exact .inr h
theorem bl_reprX {G : Hp} {Q : VK} {B : Bool} (q : Q (.str (PyData.bool B).shown) G) : rReprX [.bl B] G Q := .inl (bl_repr q)
theorem PickAt.frP {G G' : Hp} {t p : Addr} {a b n : Nat} {xs ys : List Int} (h : PickAt G t a b xs ys) (hp : PotAt G p n) (f : Fr p G G') : PickAt G' t a b xs ys := by
  obtain ⟨tx, ty, h1, h2, h3, r⟩ := h
  obtain ⟨g, c, u, e, _⟩ := hp
  have ne : ∀ {x : Addr} {l : List V}, G x = some (.tup l) → x ≠ p := fun z y => by rw [y, e] at z; cases z
  exact ⟨tx, ty, f _ _ (ne h1) h1, f _ _ (ne h2) h2, f _ _ (ne h3) h3, r⟩
theorem FiveAt.fr {G G' : Hp} {v : V} {p : Addr} {n : Nat} (h : FiveAt G v) (hp : PotAt G p n) (f : Fr p G G') : FiveAt G' v := by
  obtain ⟨c, i, k, j, l, t, rfl, hc, fv⟩ := h
  obtain ⟨g, cc, u, e, _⟩ := hp
  exact ⟨c, i, k, j, l, t, rfl, f _ _ (fun y => by rw [y, e] at hc; cases hc) hc, fv⟩
section
variable {P : Program} {w : World} {K : PySem.W.Frag} {mg : Str → Option Value} {base : Heap}
abbrev NLw : List Str := ["_law_script", "_law_k", "_law_pot_here", "_law_a", "_law_b", "_law_turn", "_law_chosen", "_law_some", "_law_what", "_law_kept", "_law_due", "_law_heard", "_law_again"]
theorem scLaw : FnScope NLw ["_law_script"] (defScope sLaw) := ⟨rfl, rfl, rfl, by decide +kernel, rfl, by decide +kernel, by decide +kernel⟩
def spLaw (K : PySem.W.Frag) : Sp := fun vs H Q _ => ∃ (a : Addr) (ns : List Int), vs = [.ref a] ∧ SqL K H a (ns.map V.int) ∧ ns.length ≤ 63 ∧ ∀ H', Q (.bl true) H'
def teBe : TE := tCall spBent [] E0 (tCons (tVar 2) (tCons (tVar 6) (tCons (tVar 7) tNil)))
/-- fifteen bent ones -/
theorem bents_ok {σ : L2.St} {G : Hp} {Q : VK} {p t ls : Addr} {a b n : Nat} {xs ys : List Int} {ms : List V} {N : Addr → Prop} (h2 : ∀ v : V, ((wipe σ [12]).set 12 (some v))[2]? = some (some (.ref p))) (h6 : ∀ v : V, ((wipe σ [12]).set 12 (some v))[6]? = some (some (.ref t))) (h7 : ∀ v : V, ((wipe σ [12]).set 12 (some v))[7]? = some (some (.ref ls)))
    (hw : ∀ v, wipe ((wipe σ [12]).set 12 (some v)) [12] = wipe σ [12]) (ha : a ≤ 6) (hb : b ≤ 6) (hP : PotAt G p n) (hn : n < 800000) (pk : PickAt G t a b xs ys) (hls : G ls = some (.lst ms)) (nls : ls ≠ p) (lms : ms.length ≤ 1000) (five : ∀ v ∈ ms, FiveAt G v) (np : N p) (lN : LstN N G)
    (q : ∀ D G' bs, Fr p G G' → PotAt G' p (n + 135) → G D = none → G' D = some (.lst bs) → Tfs N G' bs → bs.length ≤ 15 → Q (.ref D) G') : tLc (iRng1 (tCons (tC (V.int 15)) tNil)) (gName 12) tYes teBe [12] σ G Q := by
  refine ⟨15, rfl, by decide, by decide, fun D nD => ?_⟩
  have nDp : D ≠ p := hP.ne nD
  refine lc_range (lo := 0) (n := 15) (fun j G' => Fr p G G' ∧ PotAt G' p (n + 9 * j) ∧ ∃ bs, G' D = some (.lst bs) ∧ Tfs (fun x => N x ∨ x = D) G' bs ∧ bs.length = j) ⟨Fr.new nD, hP.new nD, [], upd_same, .nil, rfl⟩ ?_ ?_
  · rintro j G' hj ⟨fr, pt, bs, hD, tf, lb⟩
    rw [Int.zero_add]
    refine ⟨hw _, ?_⟩
    simp only [tYes, ↓reduceIte]
    have lN' : LstN (fun x => N x ∨ x = D) G' := (lN.fr fr pt).more hD
    refine ⟨.ref p, h2 _, .ref t, h6 _, .ref ls, h7 _, p, t, ls, a, b, n + 9 * j, xs, ys, ms, _, rfl, ha, hb, pt, by omega, pk.frP hP fr, fr _ _ nls hls, nls, lms, fun v hv => (five v hv).fr hP fr, .inl np, lN', fun v d H' f' P' tv => ?_⟩
    have hD' := f' _ _ nDp hD
    refine ⟨_, hD', Nat.lt_of_lt_of_le (show bs.length < 1000 by omega) (by decide), ?_, P'.at nDp, bs ++ [v], upd_same, ?_, by rw [List.length_append, List.length_singleton, lb]⟩
    · intro b' o nb e
      rw [upd_ne (ne_of_none e nD)]
      exact f' _ _ nb (fr _ _ nb e)
    · have fu : FrX (fun x => N x ∨ x = D) H' (upd H' D (.lst (bs ++ [v]))) := fun b' o' nb hb' => by
        rw [upd_ne (fun z => nb (.inr z))]
        exact hb'
      exact ((tf.fr (FrX.of f' (.inl np))).fr fu).app (.cons (tv.fr fu) .nil)
  · rintro G' ⟨fr, pt, bs, hD, tf, lb⟩
    exact q D G' bs fr pt nD hD (tf.less fun x h => .inl h) (by omega)
theorem ok_law {f fPo fT fO fPk fS fBe fMs fPr fLM fC fOn fIm fSp fW fBt fU fPb fM cF cB : Addr} {fd fdPo fdT fdO fdPk fdS fdBe fdMs fdPr fdLM fdC fdOn fdIm fdSp fdW fdBt fdU fdPb fdM : FuncData} (F : Fun K "law" "law" sLaw f fd) (FPo : Fun K "_law_pot" "_law_pot" sDraws fPo fdPo) (FT : Fun K "_law_take" "_law_take" sTake fT fdT) (FO : Fun K "_law_of" "_law_of" sOf fO fdO) (FPk : Fun K "_law_pick" "_law_pick" sPick fPk fdPk) (FS : Fun K "_law_size" "_law_size" sSize fS fdS) (FBe : Fun K "_law_bent" "_law_bent" sBent fBe fdBe) (FMs : Fun K "_law_mills" "_law_mills" sMills fMs fdMs) (FPr : Fun K "_law_pairs" "_law_pairs" sPairs fPr fdPr) (FLM : Fun K "_law_is_mill" "_law_is_mill" sLMill fLM fdLM) (FC : Fun K "_law_comes" "_law_comes" sLComes fC fdC) (FOn : Fun K "_law_is_one" "_law_is_one" sOne fOn fdOn) (FIm : Fun K "is_mill" "is_mill" sIsMill fIm fdIm) (FSp : Fun K "size_of_pick" "size_of_pick" sSizeP fSp fdSp) (FW : Fun K "is_whole" "is_whole" sPWhole fW fdW) (FBt : Fun K "is_between" "is_between" sBetween fBt fdBt) (FU : Fun K "is_tuple_of" "is_tuple_of" sTupOf fU fdU) (FPb : Fun K "is_pair_below" "is_pair_below" sPairB fPb fdPb) (FM : Fun K "comes" "comes" sComes fM fdM)
    (bPo : Binds K fdPo ["_law_script", "_law_k"] []) (bT : Binds K fdT ["_law_pot_here", "_law_many"] []) (bO : Binds K fdO ["_law_pot_here", "_law_some"] []) (bPk : Binds K fdPk ["_law_pot_here", "_law_a", "_law_b"] []) (bS : Binds K fdS ["_law_pot_here", "_law_most"] []) (bBe : Binds K fdBe ["_law_pot_here", "_law_chosen", "_law_some"] []) (bMs : Binds K fdMs ["_law_chosen"] []) (bPr : Binds K fdPr ["_law_many"] []) (bLM : Binds K fdLM ["_law_chosen", "_law_i", "_law_k", "_law_j", "_law_l", "_law_turn"] []) (bC : Binds K fdC ["_law_chosen", "_law_i", "_law_j"] []) (bOn : Binds K fdOn ["_law_chosen", "_law_what"] []) (bIm : Binds K fdIm ["pick", "thing"] []) (bSp : Binds K fdSp ["pick"] []) (bW : Binds K fdW ["thing"] []) (bBt : Binds K fdBt ["thing", "least", "most"] []) (bU : Binds K fdU ["thing", "many"] []) (bPb : Binds K fdPb ["one", "other", "many"] []) (bM : Binds K fdM ["pick", "i", "j"] [])
    (gPo : mg "_law_pot" = some (.ref fPo)) (gT : mg "_law_take" = some (.ref fT)) (gO : mg "_law_of" = some (.ref fO)) (gPk : mg "_law_pick" = some (.ref fPk)) (gS : mg "_law_size" = some (.ref fS)) (gBe : mg "_law_bent" = some (.ref fBe)) (gMs : mg "_law_mills" = some (.ref fMs)) (gPr : mg "_law_pairs" = some (.ref fPr)) (gLM : mg "_law_is_mill" = some (.ref fLM)) (gC : mg "_law_comes" = some (.ref fC)) (gOn : mg "_law_is_one" = some (.ref fOn)) (gIm : mg "is_mill" = some (.ref fIm)) (gSp : mg "size_of_pick" = some (.ref fSp)) (gW : mg "is_whole" = some (.ref fW)) (gBt : mg "is_between" = some (.ref fBt)) (gU : mg "is_tuple_of" = some (.ref fU)) (gPb : mg "is_pair_below" = some (.ref fPb)) (gM : mg "comes" = some (.ref fM))
    (mi : mg "isinstance" = none) (mint : mg "int" = none) (mbool : mg "bool" = none) (mtup : mg "tuple" = none) (ml : mg "len" = none) (mall : mg "all" = none) (mr : mg "range" = none) (mmin : mg "min" = none) (mmax : mg "max" = none) (mrep : mg "repr" = none) (ma : mg "abs" = none) (ms : mg "sorted" = none) (mlist : mg "list" = none)
    (gF : mg "LEGS_FORTH" = some (.ref cF)) (gK : mg "LEGS_BACK" = some (.ref cB)) (hF : ∀ G : Hp, SqT K G cF [.int 0, .int 1, .int 2, .int 3]) (hB : ∀ G : Hp, SqT K G cB [.int 2, .int 3, .int 0, .int 1]) :
    FnG P w K mg base 5 f fd ["_law_script"] (spLaw K) := by
  have GPo : FnOk P w K mg base CX0 1 fPo fdPo ["_law_script", "_law_k"] (spDraws K) := ok_draws FPo ml ma
  have GPk : FnOk P w K mg base CX0 2 fPk fdPk ["_law_pot_here", "_law_a", "_law_b"] spPick := ok_pick FPk FT bT gT mr mtup ms ml
  have GS : FnOk P w K mg base CX0 2 fS fdS ["_law_pot_here", "_law_most"] spSize := ok_size FS FT bT gT
  have GBe : FnOk P w K mg base CX0 3 fBe fdBe ["_law_pot_here", "_law_chosen", "_law_some"] spBent := ok_bent FBe FO FT bO bT gO gT ml mlist
  have GMs : FnOk P w K mg base CX0 3 fMs fdMs ["_law_chosen"] spMills := ok_mills FMs FPr FLM FC bPr bLM bC gPr gLM gC mint mall mr ml
  have GOn : FnOk P w K mg base CX0 3 fOn fdOn ["_law_chosen", "_law_what"] spIsMill := ok_one FOn FLM FC bLM bC gLM gC mi mint mbool mtup ml mall
  have GIm : FnOk P w K mg base CX0 4 fIm fdIm ["pick", "thing"] spIsMill := ok_ismill FIm FW FBt FU FSp FPb FM bW bBt bU bSp bPb bM gW gBt gU gSp gPb gM gF gK hF hB mi mint mbool mtup ml
  have kI := kb_ismill FIm
  refine okG F scLaw (fun vs H Q E h => ?_) (fun cdv A outer s H vs Q E hgd hr h => ?_)
  · obtain ⟨a, ns, rfl, _⟩ := h
    rfl
  · obtain ⟨z, ns, rfl, hS, hlen, q⟩ := h
    have nd := scLaw.nd
    refine ⟨_, pss_cons (ps_for PassesOwn.never rfl (pi_range1 (by rfl) mr (pa_cons (pe_callB (call_max2 rfl) (by rfl) mmax (by decide +kernel) (pa_cons pe_int (pa_cons (pe_callB (call_min2 rfl) (by rfl) mmin (by decide +kernel) (pa_cons pe_int (pa_cons (pe_callB call_len_seq (by rfl) ml PySem.boot_len (pa_cons (pv 0) pa_nil)) pa_nil))) pa_nil))) pa_nil)) (pg_name (i := 1) nd rfl (.inl rfl)) (pss_cons (ps_set (i := 2) nd rfl (.inr rfl) (pe_call GPo (hr.mono (by decide)) (by rfl) gPo FPo.kp bPo .nil pass0 (pa_cons (pv 0) (pa_cons (pv 1) pa_nil))))
      (pss_cons (ps_asg (pe_call GS (hr.mono (by decide)) (by rfl) gS FS.kp bS .nil pass0 (pa_cons (pv 2) (pa_cons pe_int pa_nil))) (pg_tup rfl (pgs_cons (pg_name (i := 3) nd rfl (.inl rfl)) (pgs_cons (pg_name (i := 4) nd rfl (.inl rfl)) pgs_nil))))
      (pss_one (ps_for PassesOwn.never rfl (pi_range1 (by rfl) mr (pa_cons pe_int pa_nil)) (pg_name (i := 5) nd rfl (.inl rfl)) (pss_cons (ps_set (i := 6) nd rfl (.inr rfl) (pe_call GPk (hr.mono (by decide)) (by rfl) gPk FPk.kp bPk .nil pass0 (pa_cons (pv 2) (pa_cons (pv 3) (pa_cons (pv 4) pa_nil)))))
      (pss_cons (ps_set (i := 7) nd rfl (.inr rfl) (pe_call GMs (hr.mono (by decide)) (by rfl) gMs FMs.kp bMs .nil pass0 (pa_cons (pv 6) pa_nil)))
      (pss_one (ps_for PassesOwn.never rfl (pi_list (pe_op op_cat (pe_slice sl_list (pv 7) po_none (po_some pe_int)) (pe_lc (own := [("_law_again", 12)]) (g := gName 12) (tt := tYes) (te := teBe) rfl nd (pi_range1 (by rfl) mr (pa_cons pe_int pa_nil)) (blkOk_by (own := [("_law_again", 12)]) (N := NLw) (sc := defScope sLaw) (by decide +kernel)) (fun _ _ _ _ _ => pg_name (i := 12) nd rfl (.inl rfl)) (fun _ _ _ _ _ => pts_nil) (fun _ _ _ _ _ => (pe_call GBe (hr.mono (by decide)) (by rfl) gBe FBe.kp bBe .nil pass0 (pa_cons (pv 2) (pa_cons (pv 6) (pa_cons (pv 7) pa_nil)))))))) (pg_name (i := 8) nd rfl (.inl rfl)) (pss_cons (ps_par (i := 9) (j := 10) rfl nd rfl rfl (by decide) rfl rfl (pa_cons (pe_callB (call_reprV hr.units hgd) (by rfl) mrep (by decide +kernel) (pa_cons (pe_tup (pa_cons (pv 6) (pa_cons (pv 8) pa_nil))) pa_nil)) (pa_cons (pe_callB (call_reprV hr.units hgd) (by rfl) mrep (by decide +kernel) (pa_cons (pe_call GOn (hr.mono (by decide)) (by rfl) gOn FOn.kp bOn .nil pass0 (pa_cons (pv 6) (pa_cons (pv 8) pa_nil))) pa_nil)) pa_nil)) rfl)
      (pss_cons (ps_set (i := 11) nd rfl (.inl rfl) (pe_lst (pa_cons (pe_callB (call_reprV hr.units hgd) (by rfl) mrep (by decide +kernel) (pa_cons (pe_call GIm (hr.mono (by decide)) (by rfl) gIm FIm.kp bIm .nil pass0 (pa_cons (pv 6) (pa_cons (pv 8) pa_nil))) pa_nil)) (pa_cons (pe_callB (call_reprV hr.units hgd) (by rfl) mrep (by decide +kernel) (pa_cons (pe_callKW GIm (hr.mono (by decide)) (by rfl) gIm FIm.kp kI pass0 (pk_cons (pv 8) (pk_cons (pv 6) pk_nil))) pa_nil)) pa_nil))))
      (pss_one (ps_if (PW.pt (pw_or (pt_cmpR (op_neD hr.units) (pv 11) (pe_lst (pa_cons (pv 10) (pa_cons (pv 10) pa_nil))) (nomark _)) (pw_or1 (pt_cmpR op_ne (pe_callB (call_reprV hr.units hgd) (by rfl) mrep (by decide +kernel) (pa_cons (pe_tup (pa_cons (pv 6) (pa_cons (pv 8) pa_nil))) pa_nil)) (pv 9) (nomark _))))) (pss_one (ps_ret pe_bl)) pss_nil)))))))))))))
      (pss_one (ps_ret pe_bl)), ?_⟩
    refine ⟨.ref z, rfl, z, _, rfl, .inl hS, 3, _, rfl, 1, _, rfl, _, rfl, ?_, ?_, ?_⟩
    · split <;> split <;> omega
    · rw [List.length_map]
      split <;> split <;> omega
    · refine for_range (lo := 0) (n := _) (fun i σ G => SqL K G z (ns.map V.int) ∧ ∃ y1 y2 y3 y4 y5 y6 y7 y8 y9 y10 y11 y12, σ = [some (.ref z), y1, y2, y3, y4, y5, y6, y7, y8, y9, y10, y11, y12]) ⟨hS, _, _, _, _, _, _, _, _, _, _, _, _, rfl⟩ ?_ ?_
      · rintro i σ G hi ⟨hSG, y1, y2, y3, y4, y5, y6, y7, y8, y9, y10, y11, y12, rfl⟩
        have hi3 : i < 3 := by
          rw [List.length_map] at hi
          revert hi
          split <;> split <;> omega
        rw [Int.zero_add]
        refine ⟨.ref z, rfl, .int (i : Int), rfl, z, ns, i, rfl, hSG, by omega, fun H1 p sm1 np hP1 => ?_⟩
        refine ⟨.ref p, rfl, p, 5, 0, rfl, by decide, by decide, hP1, by decide, fun a b u H2 ha hb f2 P2 hu => ?_⟩
        have a5 : a ≤ 5 := by omega
        have b5 : b ≤ 5 := by omega
        have fr2 : Fr p G H2 := (Fr.same sm1).trans f2
        refine ⟨u, _, rfl, .inl (.inl hu), rfl, _, _, rfl, _, _, rfl, rfl, ?_⟩
        dsimp only
        refine ⟨3, rfl, by decide, by decide, ?_⟩
        refine for_range (lo := 0) (n := 3) (fun m σ G' => Fr p G G' ∧ PotAt G' p (4 + 440 * m) ∧ ∃ y5 y6 y7 y8 y9 y10 y11, σ = [some (.ref z), some (.int (i : Int)), some (.ref p), some (.int (a : Int)), some (.int (b : Int)), y5, y6, y7, y8, y9, y10, y11, y12]) ⟨fr2, P2, _, _, _, _, _, _, _, rfl⟩ ?_ ?_
        · rintro m σ G3 hm ⟨fr3, P3, y5, y6, y7, y8, y9, y10, y11, rfl⟩
          rw [Int.zero_add]
          refine ⟨.ref p, rfl, .int (a : Int), rfl, .int (b : Int), rfl, p, a, b, 4 + 440 * m, rfl, by omega, by omega, P3, by omega, fun t xs ys H4 f4 P4 pk => ?_⟩
          refine ⟨.ref t, rfl, t, a, b, xs, ys, rfl, pk, by omega, by omega, fun G5 ls I5 nls => ?_⟩
          have lm := mills450 (xs := xs) (ys := ys) (show a ≤ 6 by omega) (show b ≤ 6 by omega)
          obtain ⟨cs, s5, h5, hc5, e5⟩ := id I5
          have lcs : cs.length ≤ 450 := by
            have := congrArg List.length e5
            unfold vI at this
            rw [List.length_map, List.length_map] at this
            omega
          have five : ∀ v ∈ vrefs cs, FiveAt G5 v := fun v hv => by
            obtain ⟨c, hc, rfl⟩ := List.mem_map.mp hv
            have hcc := hc5 c hc
            have mem : c.2 ∈ vI (millsL xs ys a b) := by
              rw [← e5]
              exact List.mem_map.mpr ⟨c, hc, rfl⟩
            obtain ⟨x, hx, ex⟩ := List.mem_map.mp mem
            obtain ⟨i', k', j', l', t', rfl, ik, ka, jl, lb, ht, _⟩ := mills_out hx
            rw [← ex] at hcc
            exact ⟨c.1, (i' : Int), (k' : Int), (j' : Int), (l' : Int), t', rfl, hcc, ⟨by omega, by omega, by omega, by omega, by omega⟩⟩
          have P5 := P4.same s5
          have nlsp : ls ≠ p := P4.ne nls
          have pk5 := pk.same s5
          have f5 : Fr p G G5 := fr3.trans (f4.trans (Fr.same s5))
          have lcs' : (vrefs cs).length = cs.length := List.length_map _
          generalize vrefs cs = ms' at h5 five lcs'
          have lms : ms'.length ≤ 450 := by omega
          refine ⟨.ref ls, rfl, 9, rfl, ls, ms', rfl, .inl (.inl h5), fun l1 n1 => ?_⟩
          have g1 := same_upd (o := .lst (cutV ms' none (some 9))) n1
          have P5' := P5.same g1
          have n1p : l1 ≠ p := P5.ne n1
          refine bents_ok (a := a) (b := b) (xs := xs) (ys := ys) (ms := ms') (p := p) (t := t) (ls := ls) (N := (· = p)) (fun v => rfl) (fun v => rfl) (fun v => rfl) (fun v => rfl) (by omega) (by omega) P5' (by omega) (pk5.same g1) (g1 _ _ h5) nlsp (by omega) (fun v hv => (five v hv).fr P5 (Fr.same g1)) rfl (lstOne P5') fun D G6 bs f6 P6 nD hD tb lb => ?_
          have h1 := f6 _ _ n1p (upd_same (H := G5) (a := l1) (o := .lst (cutV ms' none (some 9))))
          have lc9 := cutV_length ms' none (some 9)
          refine ⟨l1, D, _, bs, rfl, rfl, h1, hD, Nat.le_trans (show (cutV ms' none (some 9)).length + bs.length ≤ 1000 by omega) (by decide), fun l2 n2 => ?_⟩
          have g2 := same_upd (o := .lst (cutV ms' none (some 9) ++ bs)) n2
          have fA : Fr p G5 (upd G6 l2 (.lst (cutV ms' none (some 9) ++ bs))) := (Fr.same g1).trans (f6.trans (Fr.same g2))
          have P7 := P6.same g2
          have b7 : Tfs (· = p) (upd G6 l2 (.lst (cutV ms' none (some 9) ++ bs))) (cutV ms' none (some 9) ++ bs) := Tfs.app (fun v hv => ((five v ((cut_sub ms' _ _).subset hv)).fr P5 fA).tf (lstOne P7)) (tb.fr (FrX.same g2))
          have h7 := upd_same (H := G6) (a := l2) (o := .lst (cutV ms' none (some 9) ++ bs))
          have pk7 := pk5.frP P5 fA
          have f7 := f5.trans fA
          refine ⟨l2, rfl, ⟨_, .inl (.inl h7)⟩, ?_⟩
          generalize upd G6 l2 (.lst (cutV ms' none (some 9) ++ bs)) = G7 at P7 b7 h7 pk7 f7
          generalize cutV ms' none (some 9) ++ bs = v7 at b7 h7
          refine for_list (xs := v7) (fun r σ G' => Same G7 G' ∧ ∃ y8 y9 y10 y11, σ = [some (.ref z), some (.int (i : Int)), some (.ref p), some (.int (a : Int)), some (.int (b : Int)), some (.int (m : Int)), some (.ref t), some (.ref ls), y8, y9, y10, y11, y12]) ⟨Same.refl _, _, _, _, _, rfl⟩ (fun r σ G' _ h => .inl (.inl (h.1 _ _ h7))) ?_ ?_
          · rintro r v σ G' hv ⟨sm, y8, y9, y10, y11, rfl⟩
            obtain ⟨d, tv⟩ := b7 v (List.mem_of_getElem? hv)
            have tg : ∀ {X : Hp}, Same G7 X → TG (· = p) X v d := fun s => (tv.fr (FrX.same s)).tg
            obtain ⟨S, rp⟩ := pair_shown (N := (· = p)) (a := a) (b := b) (xs := xs) (ys := ys) (d := d) (by omega) (by omega)
            refine ⟨.ref t, rfl, v, rfl, by show 2 ≤ sizeLine; decide, fun T1 nT1 => ?_⟩
            have r0 := same_upd (o := .tup [.ref t, v]) nT1
            have sm0 := sm.trans r0
            refine ⟨S, fun R h => rp _ T1 t v R (pk7.same sm0) (tv.fr (FrX.same sm0)) upd_same h, ?_⟩
            refine ⟨.ref t, rfl, v, rfl, t, _, v, d, a, b, xs, ys, rfl, pk7.same sm0, tg sm0, fun B1 H1 e1 r1 => ⟨_, fun R h => bl_reprX h, _, _, rfl, ?_⟩⟩
            have sm1 := sm0.trans r1
            refine ⟨.ref t, rfl, v, rfl, t, _, v, d, a, b, xs, ys, rfl, pk7.same sm1, tg sm1, fun B2 H2 e2 r2 => ⟨_, fun R h => bl_reprX h, ?_⟩⟩
            have sm2 := sm1.trans r2
            refine ⟨v, rfl, .ref t, rfl, t, _, v, d, a, b, xs, ys, rfl, pk7.same sm2, tg sm2, fun B3 H3 e3 r3 => ⟨_, fun R h => bl_reprX h, ?_⟩⟩
            have sm3 := sm2.trans r3
            obtain rfl : B2 = B1 := by rw [e2, e1]
            obtain rfl : B3 = B2 := by rw [e3, e2]
            obtain ⟨sp, eq⟩ := two_strs B3
            refine ⟨by show 2 ≤ sizeLine; decide, fun l10 n10 => ?_⟩
            have r4 := same_upd (o := .lst [.str (PyData.bool B3).shown, .str (PyData.bool B3).shown]) n10
            generalize (PyData.bool B3).shown = W at sp eq r4 ⊢
            have h10 := upd_same (H := H3) (a := l10) (o := .lst [.str W, .str W])
            refine ⟨.ref l10, rfl, .str W, rfl, .str W, rfl, by show 2 ≤ sizeLine; decide, fun l11 n11 => ?_⟩
            have r5 := same_upd (o := .lst [.str W, .str W]) n11
            refine ⟨.list [.str W, .str W], .list [.str W, .str W], .lst (.inl (.inl (r5 _ _ h10))) (.cons (.str _) (.cons (.str _) .nil)), .lst (.inl (.inl upd_same)) (.cons (.str _) (.cons (.str _) .nil)), sp, sp, ?_⟩
            rw [eq]
            refine ⟨false, rfl, iteF ?_⟩
            have sm5 := sm3.trans (r4.trans r5)
            have en : (!decide (V.str S = V.str S)) = false := by rw [decide_eq_true rfl]; rfl
            refine ⟨.ref t, rfl, v, rfl, by show 2 ≤ sizeLine; decide, fun T2 nT2 => ?_⟩
            have r6 := same_upd (o := .tup [.ref t, v]) nT2
            have sm6 := sm5.trans r6
            refine ⟨S, fun R h => rp _ T2 t v R (pk7.same sm6) (tv.fr (FrX.same sm6)) upd_same h, .str S, rfl, rfl, ?_⟩
            rw [en]
            exact ⟨false, rfl, iteF ⟨sm6, _, _, _, _, rfl⟩⟩
          · rintro σ G' ⟨sm, y8, y9, y10, y11, rfl⟩
            exact ⟨f7.trans (Fr.same sm), (P7.same sm).mono (by omega), _, _, _, _, _, _, _, rfl⟩
        · rintro σ G3 ⟨fr3, P3, y5, y6, y7, y8, y9, y10, y11, rfl⟩
          exact ⟨freshSeq hSG np fr3, _, _, _, _, _, _, _, _, _, _, _, _, rfl⟩
      · rintro σ G ⟨hSG, y1, y2, y3, y4, y5, y6, y7, y8, y9, y10, y11, y12, rfl⟩
        exact q G
end
end C2

namespace C2
set_option Elab.async false
set_option linter.all false
set_option maxRecDepth 100000
set_option maxHeartbeats 4000000
open PySem PySem.Spec PyProof.Rows L2
theorem all_mk {l : PySem.W.OpenLaw} {w : World} {K : PySem.W.Frag} {h : Heap} {mg : Str → Option Value} {fa f1 f2 f3 f4 f5 f6 f7 f8 f9 f10 f11 f12 f13 f14 f15 f16 f17 f18 f19 : Addr} (X : K.In h) (G : h.Ns mainGlobals mg) (hfa : mg "law" = some (.ref fa))
    {od1 an1 od2 an2 od3 an3 od4 an4 od5 an5 od6 an6 od7 an7 od8 an8 od9 an9 od10 an10 od11 an11 od12 an12 od13 an13 od14 an14 od15 an15 od16 an16 od17 an17 od18 an18 od19 an19 : Option Addr} {sl1 sl2 sl3 sl4 sl5 sl6 sl7 sl8 sl9 sl10 sl11 sl12 sl13 sl14 sl15 sl16 sl17 sl18 sl19 : Array (Option Value)}
    {oc1 kV1 dc1 pm1 cd1 ct1 oc2 kV2 dc2 pm2 cd2 ct2 oc3 kV3 dc3 pm3 cd3 ct3 oc4 kV4 dc4 pm4 cd4 ct4 oc5 kV5 dc5 pm5 cd5 ct5 oc6 kV6 dc6 pm6 cd6 ct6 oc7 kV7 dc7 pm7 cd7 ct7 oc8 kV8 dc8 pm8 cd8 ct8 oc9 kV9 dc9 pm9 cd9 ct9 oc10 kV10 dc10 pm10 cd10 ct10 oc11 kV11 dc11 pm11 cd11 ct11 oc12 kV12 dc12 pm12 cd12 ct12 oc13 kV13 dc13 pm13 cd13 ct13 oc14 kV14 dc14 pm14 cd14 ct14 oc15 kV15 dc15 pm15 cd15 ct15 oc16 kV16 dc16 pm16 cd16 ct16 oc17 kV17 dc17 pm17 cd17 ct17 oc18 kV18 dc18 pm18 cd18 ct18 oc19 kV19 dc19 pm19 cd19 ct19 : Value}
    (a1 : PySem.W.nsIn K mainGlobals "_law_pot" = some (some (.ref f1))) (l1 : K.lookup f1 = some ⟨oc1, od1, .func (PySem.W.fnOf "_law_pot" "_law_pot" (defArgs sDraws) (defBody sDraws) (defScope sDraws) .none kV1 dc1 pm1 an1 cd1 ct1), sl1⟩) (c1 : PySem.W.codeIn K cd1 "_law_pot" = true) (k1 : PySem.W.keepIn K (.ref f1) = true)
    (a2 : PySem.W.nsIn K mainGlobals "_law_take" = some (some (.ref f2))) (l2 : K.lookup f2 = some ⟨oc2, od2, .func (PySem.W.fnOf "_law_take" "_law_take" (defArgs sTake) (defBody sTake) (defScope sTake) .none kV2 dc2 pm2 an2 cd2 ct2), sl2⟩) (c2 : PySem.W.codeIn K cd2 "_law_take" = true) (k2 : PySem.W.keepIn K (.ref f2) = true)
    (a3 : PySem.W.nsIn K mainGlobals "_law_of" = some (some (.ref f3))) (l3 : K.lookup f3 = some ⟨oc3, od3, .func (PySem.W.fnOf "_law_of" "_law_of" (defArgs sOf) (defBody sOf) (defScope sOf) .none kV3 dc3 pm3 an3 cd3 ct3), sl3⟩) (c3 : PySem.W.codeIn K cd3 "_law_of" = true) (k3 : PySem.W.keepIn K (.ref f3) = true)
    (a4 : PySem.W.nsIn K mainGlobals "_law_pick" = some (some (.ref f4))) (l4 : K.lookup f4 = some ⟨oc4, od4, .func (PySem.W.fnOf "_law_pick" "_law_pick" (defArgs sPick) (defBody sPick) (defScope sPick) .none kV4 dc4 pm4 an4 cd4 ct4), sl4⟩) (c4 : PySem.W.codeIn K cd4 "_law_pick" = true) (k4 : PySem.W.keepIn K (.ref f4) = true)
    (a5 : PySem.W.nsIn K mainGlobals "_law_size" = some (some (.ref f5))) (l5 : K.lookup f5 = some ⟨oc5, od5, .func (PySem.W.fnOf "_law_size" "_law_size" (defArgs sSize) (defBody sSize) (defScope sSize) .none kV5 dc5 pm5 an5 cd5 ct5), sl5⟩) (c5 : PySem.W.codeIn K cd5 "_law_size" = true) (k5 : PySem.W.keepIn K (.ref f5) = true)
    (a6 : PySem.W.nsIn K mainGlobals "_law_bent" = some (some (.ref f6))) (l6 : K.lookup f6 = some ⟨oc6, od6, .func (PySem.W.fnOf "_law_bent" "_law_bent" (defArgs sBent) (defBody sBent) (defScope sBent) .none kV6 dc6 pm6 an6 cd6 ct6), sl6⟩) (c6 : PySem.W.codeIn K cd6 "_law_bent" = true) (k6 : PySem.W.keepIn K (.ref f6) = true)
    (a7 : PySem.W.nsIn K mainGlobals "_law_mills" = some (some (.ref f7))) (l7 : K.lookup f7 = some ⟨oc7, od7, .func (PySem.W.fnOf "_law_mills" "_law_mills" (defArgs sMills) (defBody sMills) (defScope sMills) .none kV7 dc7 pm7 an7 cd7 ct7), sl7⟩) (c7 : PySem.W.codeIn K cd7 "_law_mills" = true) (k7 : PySem.W.keepIn K (.ref f7) = true)
    (a8 : PySem.W.nsIn K mainGlobals "_law_pairs" = some (some (.ref f8))) (l8 : K.lookup f8 = some ⟨oc8, od8, .func (PySem.W.fnOf "_law_pairs" "_law_pairs" (defArgs sPairs) (defBody sPairs) (defScope sPairs) .none kV8 dc8 pm8 an8 cd8 ct8), sl8⟩) (c8 : PySem.W.codeIn K cd8 "_law_pairs" = true) (k8 : PySem.W.keepIn K (.ref f8) = true)
    (a9 : PySem.W.nsIn K mainGlobals "_law_is_mill" = some (some (.ref f9))) (l9 : K.lookup f9 = some ⟨oc9, od9, .func (PySem.W.fnOf "_law_is_mill" "_law_is_mill" (defArgs sLMill) (defBody sLMill) (defScope sLMill) .none kV9 dc9 pm9 an9 cd9 ct9), sl9⟩) (c9 : PySem.W.codeIn K cd9 "_law_is_mill" = true) (k9 : PySem.W.keepIn K (.ref f9) = true)
    (a10 : PySem.W.nsIn K mainGlobals "_law_comes" = some (some (.ref f10))) (l10 : K.lookup f10 = some ⟨oc10, od10, .func (PySem.W.fnOf "_law_comes" "_law_comes" (defArgs sLComes) (defBody sLComes) (defScope sLComes) .none kV10 dc10 pm10 an10 cd10 ct10), sl10⟩) (c10 : PySem.W.codeIn K cd10 "_law_comes" = true) (k10 : PySem.W.keepIn K (.ref f10) = true)
    (a11 : PySem.W.nsIn K mainGlobals "_law_is_one" = some (some (.ref f11))) (l11 : K.lookup f11 = some ⟨oc11, od11, .func (PySem.W.fnOf "_law_is_one" "_law_is_one" (defArgs sOne) (defBody sOne) (defScope sOne) .none kV11 dc11 pm11 an11 cd11 ct11), sl11⟩) (c11 : PySem.W.codeIn K cd11 "_law_is_one" = true) (k11 : PySem.W.keepIn K (.ref f11) = true)
    (a12 : PySem.W.nsIn K mainGlobals "is_mill" = some (some (.ref f12))) (l12 : K.lookup f12 = some ⟨oc12, od12, .func (PySem.W.fnOf "is_mill" "is_mill" (defArgs sIsMill) (defBody sIsMill) (defScope sIsMill) .none kV12 dc12 pm12 an12 cd12 ct12), sl12⟩) (c12 : PySem.W.codeIn K cd12 "is_mill" = true) (k12 : PySem.W.keepIn K (.ref f12) = true)
    (a13 : PySem.W.nsIn K mainGlobals "size_of_pick" = some (some (.ref f13))) (l13 : K.lookup f13 = some ⟨oc13, od13, .func (PySem.W.fnOf "size_of_pick" "size_of_pick" (defArgs sSizeP) (defBody sSizeP) (defScope sSizeP) .none kV13 dc13 pm13 an13 cd13 ct13), sl13⟩) (c13 : PySem.W.codeIn K cd13 "size_of_pick" = true) (k13 : PySem.W.keepIn K (.ref f13) = true)
    (a14 : PySem.W.nsIn K mainGlobals "is_whole" = some (some (.ref f14))) (l14 : K.lookup f14 = some ⟨oc14, od14, .func (PySem.W.fnOf "is_whole" "is_whole" (defArgs sPWhole) (defBody sPWhole) (defScope sPWhole) .none kV14 dc14 pm14 an14 cd14 ct14), sl14⟩) (c14 : PySem.W.codeIn K cd14 "is_whole" = true) (k14 : PySem.W.keepIn K (.ref f14) = true)
    (a15 : PySem.W.nsIn K mainGlobals "is_between" = some (some (.ref f15))) (l15 : K.lookup f15 = some ⟨oc15, od15, .func (PySem.W.fnOf "is_between" "is_between" (defArgs sBetween) (defBody sBetween) (defScope sBetween) .none kV15 dc15 pm15 an15 cd15 ct15), sl15⟩) (c15 : PySem.W.codeIn K cd15 "is_between" = true) (k15 : PySem.W.keepIn K (.ref f15) = true)
    (a16 : PySem.W.nsIn K mainGlobals "is_tuple_of" = some (some (.ref f16))) (l16 : K.lookup f16 = some ⟨oc16, od16, .func (PySem.W.fnOf "is_tuple_of" "is_tuple_of" (defArgs sTupOf) (defBody sTupOf) (defScope sTupOf) .none kV16 dc16 pm16 an16 cd16 ct16), sl16⟩) (c16 : PySem.W.codeIn K cd16 "is_tuple_of" = true) (k16 : PySem.W.keepIn K (.ref f16) = true)
    (a17 : PySem.W.nsIn K mainGlobals "is_pair_below" = some (some (.ref f17))) (l17 : K.lookup f17 = some ⟨oc17, od17, .func (PySem.W.fnOf "is_pair_below" "is_pair_below" (defArgs sPairB) (defBody sPairB) (defScope sPairB) .none kV17 dc17 pm17 an17 cd17 ct17), sl17⟩) (c17 : PySem.W.codeIn K cd17 "is_pair_below" = true) (k17 : PySem.W.keepIn K (.ref f17) = true)
    (a18 : PySem.W.nsIn K mainGlobals "comes" = some (some (.ref f18))) (l18 : K.lookup f18 = some ⟨oc18, od18, .func (PySem.W.fnOf "comes" "comes" (defArgs sComes) (defBody sComes) (defScope sComes) .none kV18 dc18 pm18 an18 cd18 ct18), sl18⟩) (c18 : PySem.W.codeIn K cd18 "comes" = true) (k18 : PySem.W.keepIn K (.ref f18) = true)
    (a19 : PySem.W.nsIn K mainGlobals "law" = some (some (.ref f19))) (l19 : K.lookup f19 = some ⟨oc19, od19, .func (PySem.W.fnOf "law" "law" (defArgs sLaw) (defBody sLaw) (defScope sLaw) .none kV19 dc19 pm19 an19 cd19 ct19), sl19⟩) (c19 : PySem.W.codeIn K cd19 "law" = true) (k19 : PySem.W.keepIn K (.ref f19) = true)
    (z1 : PySem.W.nsIn K mainGlobals "isinstance" = some none) (z2 : PySem.W.nsIn K mainGlobals "int" = some none) (z3 : PySem.W.nsIn K mainGlobals "bool" = some none) (z4 : PySem.W.nsIn K mainGlobals "tuple" = some none) (z5 : PySem.W.nsIn K mainGlobals "len" = some none) (z6 : PySem.W.nsIn K mainGlobals "all" = some none) (z7 : PySem.W.nsIn K mainGlobals "range" = some none) (z8 : PySem.W.nsIn K mainGlobals "min" = some none) (z9 : PySem.W.nsIn K mainGlobals "max" = some none) (z10 : PySem.W.nsIn K mainGlobals "repr" = some none) (z11 : PySem.W.nsIn K mainGlobals "abs" = some none) (z12 : PySem.W.nsIn K mainGlobals "sorted" = some none) (z13 : PySem.W.nsIn K mainGlobals "list" = some none)
    {cF : Addr} {ddF : Option Addr} {nF : Nat} {sqF : Array (Option Value)} {xF0 xF1 xF2 xF3 : Nat} (gF : PySem.W.nsIn K mainGlobals "LEGS_FORTH" = some (some (.ref cF))) (uF : K.lookup cF = some ⟨.type "tuple", ddF, .seq #[.int 0 xF0, .int 1 xF1, .int 2 xF2, .int 3 xF3] nF, sqF⟩)
    {cB : Addr} {ddB : Option Addr} {nB : Nat} {sqB : Array (Option Value)} {xB0 xB1 xB2 xB3 : Nat} (gB : PySem.W.nsIn K mainGlobals "LEGS_BACK" = some (some (.ref cB))) (uB : K.lookup cB = some ⟨.type "tuple", ddB, .seq #[.int 2 xB0, .int 3 xB1, .int 0 xB2, .int 1 xB3] nB, sqB⟩) :
    ∃ fd : FuncData, (∀ (s : Shared) (v : Value), BindsTo s fd ⟨[v], []⟩ [("_law_script", v)]) ∧ ∀ base : Heap, K.In base → base.Ns mainGlobals mg → FnG l.prog w K mg base 5 fa fd ["_law_script"] (spLaw K) := by
  have e := hfa.symm.trans (PySem.W.mg_of X G a19)
  cases e
  have F1 := fun_mk (st := sDraws) l1 c1 k1
  have F2 := fun_mk (st := sTake) l2 c2 k2
  have F3 := fun_mk (st := sOf) l3 c3 k3
  have F4 := fun_mk (st := sPick) l4 c4 k4
  have F5 := fun_mk (st := sSize) l5 c5 k5
  have F6 := fun_mk (st := sBent) l6 c6 k6
  have F7 := fun_mk (st := sMills) l7 c7 k7
  have F8 := fun_mk (st := sPairs) l8 c8 k8
  have F9 := fun_mk (st := sLMill) l9 c9 k9
  have F10 := fun_mk (st := sLComes) l10 c10 k10
  have F11 := fun_mk (st := sOne) l11 c11 k11
  have F12 := fun_mk (st := sIsMill) l12 c12 k12
  have F13 := fun_mk (st := sSizeP) l13 c13 k13
  have F14 := fun_mk (st := sPWhole) l14 c14 k14
  have F15 := fun_mk (st := sBetween) l15 c15 k15
  have F16 := fun_mk (st := sTupOf) l16 c16 k16
  have F17 := fun_mk (st := sPairB) l17 c17 k17
  have F18 := fun_mk (st := sComes) l18 c18 k18
  have F19 := fun_mk (st := sLaw) l19 c19 k19
  have b1 := F1.binds (ps := ["_law_script", "_law_k"]) fun _ _ _ _ _ _ us hl => match us, hl with | [_, _], _ => rfl
  have b2 := F2.binds (ps := ["_law_pot_here", "_law_many"]) fun _ _ _ _ _ _ us hl => match us, hl with | [_, _], _ => rfl
  have b3 := F3.binds (ps := ["_law_pot_here", "_law_some"]) fun _ _ _ _ _ _ us hl => match us, hl with | [_, _], _ => rfl
  have b4 := F4.binds (ps := ["_law_pot_here", "_law_a", "_law_b"]) fun _ _ _ _ _ _ us hl => match us, hl with | [_, _, _], _ => rfl
  have b5 := F5.binds (ps := ["_law_pot_here", "_law_most"]) fun _ _ _ _ _ _ us hl => match us, hl with | [_, _], _ => rfl
  have b6 := F6.binds (ps := ["_law_pot_here", "_law_chosen", "_law_some"]) fun _ _ _ _ _ _ us hl => match us, hl with | [_, _, _], _ => rfl
  have b7 := F7.binds (ps := ["_law_chosen"]) fun _ _ _ _ _ _ us hl => match us, hl with | [_], _ => rfl
  have b8 := F8.binds (ps := ["_law_many"]) fun _ _ _ _ _ _ us hl => match us, hl with | [_], _ => rfl
  have b9 := F9.binds (ps := ["_law_chosen", "_law_i", "_law_k", "_law_j", "_law_l", "_law_turn"]) fun _ _ _ _ _ _ us hl => match us, hl with | [_, _, _, _, _, _], _ => rfl
  have b10 := F10.binds (ps := ["_law_chosen", "_law_i", "_law_j"]) fun _ _ _ _ _ _ us hl => match us, hl with | [_, _, _], _ => rfl
  have b11 := F11.binds (ps := ["_law_chosen", "_law_what"]) fun _ _ _ _ _ _ us hl => match us, hl with | [_, _], _ => rfl
  have b12 := F12.binds (ps := ["pick", "thing"]) fun _ _ _ _ _ _ us hl => match us, hl with | [_, _], _ => rfl
  have b13 := F13.binds (ps := ["pick"]) fun _ _ _ _ _ _ us hl => match us, hl with | [_], _ => rfl
  have b14 := F14.binds (ps := ["thing"]) fun _ _ _ _ _ _ us hl => match us, hl with | [_], _ => rfl
  have b15 := F15.binds (ps := ["thing", "least", "most"]) fun _ _ _ _ _ _ us hl => match us, hl with | [_, _, _], _ => rfl
  have b16 := F16.binds (ps := ["thing", "many"]) fun _ _ _ _ _ _ us hl => match us, hl with | [_, _], _ => rfl
  have b17 := F17.binds (ps := ["one", "other", "many"]) fun _ _ _ _ _ _ us hl => match us, hl with | [_, _, _], _ => rfl
  have b18 := F18.binds (ps := ["pick", "i", "j"]) fun _ _ _ _ _ _ us hl => match us, hl with | [_, _, _], _ => rfl
  have hF : ∀ H : Hp, SqT K H cF [.int 0, .int 1, .int 2, .int 3] := fun H => .inr ⟨_, _, _, uF, rfl, rfl, by show 4 ≤ sizeLine; decide, .cons ⟨_, rfl⟩ (.cons ⟨_, rfl⟩ (.cons ⟨_, rfl⟩ (.cons ⟨_, rfl⟩ (.nil))))⟩
  have hB : ∀ H : Hp, SqT K H cB [.int 2, .int 3, .int 0, .int 1] := fun H => .inr ⟨_, _, _, uB, rfl, rfl, by show 4 ≤ sizeLine; decide, .cons ⟨_, rfl⟩ (.cons ⟨_, rfl⟩ (.cons ⟨_, rfl⟩ (.cons ⟨_, rfl⟩ (.nil))))⟩
  exact ⟨PySem.W.fnOf "law" "law" (defArgs sLaw) (defBody sLaw) (defScope sLaw) .none kV19 dc19 pm19 an19 cd19 ct19, fun s v => .of_eq rfl, fun base _ _ =>
    ok_law F19 F1 F2 F3 F4 F5 F6 F7 F8 F9 F10 F11 F12 F13 F14 F15 F16 F17 F18 b1 b2 b3 b4 b5 b6 b7 b8 b9 b10 b11 b12 b13 b14 b15 b16 b17 b18 (PySem.W.mg_of X G a1) (PySem.W.mg_of X G a2) (PySem.W.mg_of X G a3) (PySem.W.mg_of X G a4) (PySem.W.mg_of X G a5) (PySem.W.mg_of X G a6) (PySem.W.mg_of X G a7) (PySem.W.mg_of X G a8) (PySem.W.mg_of X G a9) (PySem.W.mg_of X G a10) (PySem.W.mg_of X G a11) (PySem.W.mg_of X G a12) (PySem.W.mg_of X G a13) (PySem.W.mg_of X G a14) (PySem.W.mg_of X G a15) (PySem.W.mg_of X G a16) (PySem.W.mg_of X G a17) (PySem.W.mg_of X G a18) (PySem.W.mg_none_of X G z1) (PySem.W.mg_none_of X G z2) (PySem.W.mg_none_of X G z3) (PySem.W.mg_none_of X G z4) (PySem.W.mg_none_of X G z5) (PySem.W.mg_none_of X G z6) (PySem.W.mg_none_of X G z7) (PySem.W.mg_none_of X G z8) (PySem.W.mg_none_of X G z9) (PySem.W.mg_none_of X G z10) (PySem.W.mg_none_of X G z11) (PySem.W.mg_none_of X G z12) (PySem.W.mg_none_of X G z13) (PySem.W.mg_of X G gF) (PySem.W.mg_of X G gB) hF hB⟩
end C2
open PySem PySem.W PyProof.Rows
set_option maxRecDepth 100000 in
set_option maxHeartbeats 0 in
theorem PySem.Challenge.cw_cornertold_k27_mills_looked_at_holds : PySem.Challenge.rw_cornertold_k27_mills_looked_at.Holds := by
  w_on; o_law; k_head; (case hw => w_witness2)
  k_fill
  refine C2.walkG (l := PySem.Challenge.rw_cornertold_k27_mills_looked_at) (n := 63) (k := 5) (x := "_law_script") (sp := C2.spLaw) rfl (by decide) rfl ⟨rfl, by decide, by decide⟩ (fun w h Y => PySem.W.kIn_of Y) ?F (fun _ _ a ns hl hS => ⟨a, ns, rfl, hS, hl, fun _ => rfl⟩)
  case F =>
    intro w mg fa h KX G hmg
    refine' C2.all_mk KX G hmg ?a1 ?l1 ?c1 ?k1 ?a2 ?l2 ?c2 ?k2 ?a3 ?l3 ?c3 ?k3 ?a4 ?l4 ?c4 ?k4 ?a5 ?l5 ?c5 ?k5 ?a6 ?l6 ?c6 ?k6 ?a7 ?l7 ?c7 ?k7 ?a8 ?l8 ?c8 ?k8 ?a9 ?l9 ?c9 ?k9 ?a10 ?l10 ?c10 ?k10 ?a11 ?l11 ?c11 ?k11 ?a12 ?l12 ?c12 ?k12 ?a13 ?l13 ?c13 ?k13 ?a14 ?l14 ?c14 ?k14 ?a15 ?l15 ?c15 ?k15 ?a16 ?l16 ?c16 ?k16 ?a17 ?l17 ?c17 ?k17 ?a18 ?l18 ?c18 ?k18 ?a19 ?l19 ?c19 ?k19 ?z1 ?z2 ?z3 ?z4 ?z5 ?z6 ?z7 ?z8 ?z9 ?z10 ?z11 ?z12 ?z13 ?gF ?uF ?gB ?uB
    (case a1 => k_is); (case l1 => k_is); (case c1 => k_is); (case k1 => k_is); (case a2 => k_is); (case l2 => k_is); (case c2 => k_is); (case k2 => k_is)
    (case a3 => k_is); (case l3 => k_is); (case c3 => k_is); (case k3 => k_is); (case a4 => k_is); (case l4 => k_is); (case c4 => k_is); (case k4 => k_is)
    (case a5 => k_is); (case l5 => k_is); (case c5 => k_is); (case k5 => k_is); (case a6 => k_is); (case l6 => k_is); (case c6 => k_is); (case k6 => k_is)
    (case a7 => k_is); (case l7 => k_is); (case c7 => k_is); (case k7 => k_is); (case a8 => k_is); (case l8 => k_is); (case c8 => k_is); (case k8 => k_is)
    (case a9 => k_is); (case l9 => k_is); (case c9 => k_is); (case k9 => k_is); (case a10 => k_is); (case l10 => k_is); (case c10 => k_is); (case k10 => k_is)
    (case a11 => k_is); (case l11 => k_is); (case c11 => k_is); (case k11 => k_is); (case a12 => k_is); (case l12 => k_is); (case c12 => k_is); (case k12 => k_is)
    (case a13 => k_is); (case l13 => k_is); (case c13 => k_is); (case k13 => k_is); (case a14 => k_is); (case l14 => k_is); (case c14 => k_is); (case k14 => k_is)
    (case a15 => k_is); (case l15 => k_is); (case c15 => k_is); (case k15 => k_is); (case a16 => k_is); (case l16 => k_is); (case c16 => k_is); (case k16 => k_is)
    (case a17 => k_is); (case l17 => k_is); (case c17 => k_is); (case k17 => k_is); (case a18 => k_is); (case l18 => k_is); (case c18 => k_is); (case k18 => k_is)
    (case a19 => k_is); (case l19 => k_is); (case c19 => k_is); (case k19 => k_is); (case z1 => k_is); (case z2 => k_is); (case z3 => k_is); (case z4 => k_is)
    (case z5 => k_is); (case z6 => k_is); (case z7 => k_is); (case z8 => k_is); (case z9 => k_is); (case z10 => k_is); (case z11 => k_is); (case z12 => k_is)
    (case z13 => k_is)
    (case gF => k_is); (case uF => k_is); (case gB => k_is); (case uB => k_is)
